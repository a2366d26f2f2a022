import PyProof.Rows.All
import Wide.All
import OpenK.AllK
import Wide.FinOn
import Lean
import PyProof.EqAt
import PyProof.EqKinds
import PyProof.TupleCall
import PyProof.ExcClass3
import PyProof.StationsW
import PyProof.ExcBaseAll.ValueError
import PyProof.ExcArgsOwn
import PyProof.IsiBase
import PyProof.IsiH_tuple
import PyProof.ExcAttrAll.ValueError
import PyProof.Rows.RuleN_isinstance
import PyProof.MeetsSeq
import PyProof.RulesAs
import PyProof.IsiH_list
import PyProof.AttrMiss
import KE.KDictOf
import PyProof.Rows.SumAny
import PyProof.Rows.MinMaxN
import PyProof.Rows.SortShellK
import PyProof.Rows.SortWalk
import PySem.Challenge.RW_farclocks_k22_barring
set_option Elab.async false
set_option linter.all false
set_option maxRecDepth 100000
set_option maxHeartbeats 8000000
noncomputable section
namespace L2
open PySem PySem.Spec PyProof.Rows
abbrev Key:=Sum Int Str
def keyIs:Key->Value->Bool
 | .inl k,v=>Value.isInt k v
 | .inr x,v=>Value.isStrOf x v
def keyH (w:World):Key->Int
 | .inl k=>hashInt k
 | .inr x=>hashStr w x
theorem bW:∀ {k:Key} {v:Value},keyIs k v=true->(∃i t,k=Sum.inl i/\v=Value.int i t)\/(∃x t,k=Sum.inr x/\v=Value.str x t)
 | .inl i,v,h=>by
  obtain⟨t,e⟩:=Value.isInt_shape (k:=i) (v:=v) h
  exact .inl ⟨i,t,rfl,e⟩
 | .inr x,v,h=>by
  obtain⟨t,e⟩:=Value.isStrOf_shape (x:=x) (v:=v) h
  exact .inr ⟨x,t,rfl,e⟩
theorem keyIs_int (i:Int)(t:Tok):keyIs (.inl i) (.int i t)=true:=by simp [keyIs,Value.isInt]
theorem keyIs_str (x:Str)(t:Tok):keyIs (.inr x) (.str x t)=true:=by simp [keyIs,Value.isStrOf]
theorem key_ll (a b:Int):decide ((Sum.inl a:Key)=Sum.inl b)=(a == b):=by
 by_cases e:a=b
 ·subst e;simp
 ·have h:¬ (Sum.inl a:Key)=Sum.inl b:=fun q=>e (Sum.inl.inj q)
  rw [decide_eq_false h]
  exact(beq_eq_false_iff_ne.mpr e).symm
theorem key_rr (a b:Str):decide ((Sum.inr a:Key)=Sum.inr b)=decide (a=b):=by
 by_cases e:a=b
 ·subst e;simp
 ·have h:¬ (Sum.inr a:Key)=Sum.inr b:=fun q=>e (Sum.inr.inj q)
  rw [decide_eq_false h,decide_eq_false e]
theorem key_lr (a:Int)(b:Str):decide ((Sum.inl a:Key)=Sum.inr b)=false:=decide_eq_false (fun q=>nomatch q)
theorem key_rl (a:Str)(b:Int):decide ((Sum.inr a:Key)=Sum.inl b)=false:=decide_eq_false (fun q=>nomatch q)
def ci (prog:Program)(w:World):PySem.KeyKind prog w Key where
 is:=keyIs
 hash:=keyH w
 inj:=fun v a b ha hb=>by
  rcases bW ha with⟨i,t,rfl,rfl⟩ | ⟨x,t,rfl,rfl⟩
  ·rcases bW hb with⟨j,u,rfl,e⟩ | ⟨y,u,rfl,e⟩
   ·injection e with e1 _;rw [e1]
   ·exact nomatch e
  ·rcases bW hb with⟨j,u,rfl,e⟩ | ⟨y,u,rfl,e⟩
   ·exact nomatch e
   ·injection e with e1 _;rw [e1]
 byValue:=fun k v h=>by
  rcases bW h with⟨i,t,rfl,rfl⟩ | ⟨x,t,rfl,rfl⟩ <;> rfl
 pyHash:=fun hv h=>by
  rcases bW hv with⟨i,t,rfl,rfl⟩ | ⟨x,t,rfl,rfl⟩
  ·exact wpAny_pyHash_int h
  ·exact wpAny_pyHash_str h
 eqBool:=fun hu hv h=>by
  rcases bW hu with⟨i,t,rfl,rfl⟩ | ⟨x,t,rfl,rfl⟩
  ·rcases bW hv with⟨j,u,rfl,rfl⟩ | ⟨y,u,rfl,rfl⟩
   ·rw [key_ll]at h;exact wpAny_eqBool_int h
   ·rw [key_lr]at h;exact SeqAt.EqAt.int_str i t y u _ _ _ _ h
  ·rcases bW hv with⟨j,u,rfl,rfl⟩ | ⟨y,u,rfl,rfl⟩
   ·rw [key_rl]at h;exact SeqAt.EqAt.str_int x t j u _ _ _ _ h
   ·rw [key_rr]at h;exact wpAny_eqBool_str h
 «strs»:=fun k x t v h=>by
  rcases bW h with⟨i,u,rfl,e⟩ | ⟨y,u,rfl,e⟩
  ·exact nomatch e
  ·injection e with e1 _
   subst e1
   cases v <;> rfl
theorem mixKind_int (prog:Program)(w:World)(i:Int)(t:Tok):(ci prog w).is (.inl i) (.int i t)=true:=keyIs_int i t
theorem mixKind_str (prog:Program)(w:World)(x:Str)(t:Tok):(ci prog w).is (.inr x) (.str x t)=true:=keyIs_str x t
inductive V where
 | non | bl (b:Bool) | int (i:Int) | str (x:Str) | byt (b:Array UInt8) | flt (b:UInt64) | ref (a:Addr) | ty (n:String)
 deriving DecidableEq
def RelV:V->Value->Prop
 | .non,u=>u=Value.none
 | .bl b,u=>u=Value.bool b
 | .int i,u=> ∃t,u=Value.int i t
 | .str x,u=> ∃t,u=Value.str x t
 | .byt b,u=> ∃t,u=Value.bytes b t
 | .flt b,u=> ∃t,u=Value.float b t
 | .ref a,u=>u=Value.ref a
 | .ty n,u=>u=Value.type n
abbrev Vals:List V->List Value->Prop:=Paired RelV
theorem Vals.length {xs:List V}{us:List Value}(r:Vals xs us):xs.length=us.length:=Paired.length r
theorem Vals.get:∀ {xs:List V} {us:List Value} {i:Nat} {x:V},Vals xs us->xs[i]? =some x->∃ u,us[i]? =some u/\RelV x u
 | _,_,_,_,.nil,e=>by simp at e
 | _,_,0,_,.cons r _,e=>by simp at e;subst e;exact⟨_,rfl,r⟩
 | _,_,i+1,x,.cons _ t,e=>by
  obtain⟨u,h1,h2⟩:=Vals.get (i:=i) (x:=x) t (by simpa using e)
  exact⟨u,by simpa using h1,h2⟩
theorem Vals.append:∀ {xs ys:List V} {us ws:List Value},Vals xs us->Vals ys ws->Vals (xs++ys) (us++ws)
 | _,_,_,_,.nil,s=>s
 | _,_,_,_,.cons r t,s=> .cons r (Vals.append t s)
theorem Vals.take:∀ {xs:List V} {us:List Value} (n:Nat),Vals xs us->Vals (xs.take n) (us.take n)
 | _,_,0,_=> .nil
 | _,_,_+1,.nil=> .nil
 | _,_,n+1,.cons r t=> .cons r (Vals.take n t)
theorem Vals.drop:∀ {xs:List V} {us:List Value} (n:Nat),Vals xs us->Vals (xs.drop n) (us.drop n)
 | _,_,0,r=>r
 | _,_,_+1,.nil=> .nil
 | _,_,n+1,.cons _ t=>Vals.drop n t
def RelO:Option V->Option Value->Prop
 | some v,some u=>RelV v u
 | none,none=>True
 | _,_=>False
def KV {κ:Type}:List (κ×V)->List (κ×Value)->Prop:=Paired fun(p:κ×V) (q:κ×Value)=>p.1=q.1/\RelV p.2 q.2
def kV:Key->V
 | .inl i=> .int i
 | .inr x=> .str x
inductive HO where
 /-- a list -/
 | lst (xs:List V)
 /-- a tuple (never changes) -/
 | tup (xs:List V)
 /-- a dict whose keys are ints and texts;one whose keys are tuples of ints and texts (the empty one is both) -/
 | dK (kvs:List (Key×V)) | dT (kvs:List (List Key×V))
 /-- a set of ints: its members,its size -/
 | set (S:Int->Bool) (n:Nat)
 /-- an instance of the class at C,its dict at dx,its attributes -/
 | ins (C dx:Addr) (fs:List (Str×V))
 /-- the dict of the instance at x -/
 | own (x:Addr)
 /-- the dict of an exception -/
 | xd (fs:List (Str×V))
 /-- a bound method,f of x -/
 | met (f x:Addr)
 /-- a range object lo,lo+1,.. below hi -/
 | rng (lo hi:Int)
 /-- a thing that is known to the object (the script;a dict while a loop walks it): read,never written while it is so -/
 | frz (o:Obj) (u:HO)
 /-- a code object's table -/
 | tbl (ps:Array Value)
 /-- any other thing,by what is true of its one object (a def of one's own: SetO a S n:=HO.ext fun h=> ..) -/
 | ext (φ:Heap->Prop)
abbrev Hp:=Addr->Option HO
def upd (H:Hp)(a:Addr)(o:HO):Hp:=fun b=>if b=a then some o else H b
theorem aG {H:Hp}{a:Addr}{o:HO}:upd H a o a=some o:=by unfold upd;rw [if_pos rfl]
theorem aA {H:Hp}{a b:Addr}{o:HO}(h:b≠a):upd H a o b=H b:=by unfold upd;rw [if_neg h]
theorem upd_upd {H:Hp}{a:Addr}{o u:HO}:upd (upd H a o) a u=upd H a u:=by
 funext b;unfold upd;split <;> rfl
theorem ne_of {H:Hp}{a b:Addr}{o u:HO}(h:H a=some o)(h':H b=some u)(d:o≠u):a≠b:=by
 intro e;subst e;rw [h]at h';exact d (Option.some.inj h')
theorem bO {H:Hp}{a b:Addr}{o:HO}(h:H a=some o)(h':H b=none):a≠b:=by
 intro e;subst e;rw [h]at h';cases h'
section
variable (P:Program)(w:World)
def ObjOk (H:Hp)(h:Heap)(a:Addr):HO->Prop
 | .lst xs=>xs.length<=sizeLine/\∃ (its:List Value) (n:Nat),Vals xs its/\h.get? a=some { cls:=.type "list",data:=.seq its.toArray n }
 | .tup xs=>xs.length<=sizeLine/\∃ its:List Value,Vals xs its/\IsTup h a its.toArray
 | .dK kvs=>kvs.length<=sizeLine/\(a == sysModules)=false/\∃ vs,KV kvs vs/\h.DictOf (ci P w) a vs
 | .dT kvs=>kvs.length<=sizeLine/\(a == sysModules)=false/\∃ xs:List (List Key×Addr×Value),
   Paired (fun(p:List Key×V) (q:List Key×Addr×Value)=>p.1=q.1/\H q.2.1=some (.tup (p.1.map kV))/\RelV p.2 q.2.2) kvs xs ∧
   ∃o es ep,h.get? a=some o/\o.ExactDict/\o.data= .dict es ep/\es.toList=xs.map (entryOfKey (tupleKind (ci P w)))/\(xs.map (·.1)).Nodup
 | .set S n=>h.SetOf (intKind P w) a S n
 | .ins C dx fs=>H dx=some (.own a)/\fs.length<=1000/\dx≠a/\h.get? a=some (PySem.W.instObj C dx) ∧
   ∃mA,h.Ns1 dx mA/\(∀f,RelO (fs.lookup f) (mA f))/\PySem.Within mA (fs.map (·.1))
 | .own _=> ∃o,h.get? a=some o
 | .xd fs=> ∃mA,h.Ns1 a mA/\∀ f,RelO (fs.lookup f) (mA f)
 | .rng lo hi=> ∃t u v,h.get? a=some { cls:=.type "range",data:=.fields #[.int lo t,.int hi u,.int 1 v] }
 | .frz o u=>h.get? a=some o/\ObjOk H h a u
 | .tbl ps=>h.get? a=some { cls:=.none,data:=.fields ps }
 | .met f x=>h.get? a=some (PySem.W.methodObj (.ref f) (.ref x))
 | .ext φ=>φ h/\(∃o,h.get? a=some o)/\∀ h1 h2:Heap,φ h1->(∀o,h1.get? a=some o->h2.get? a=some o)->φ h2
def HOk (H:Hp)(h:Heap):Prop:=∀ a o,H a=some o->ObjOk P w H h a o
end
section
variable {P:Program}{w:World}{H H':Hp}{h h':Heap}{a:Addr}{o:HO}
theorem ObjOk.lt (x:ObjOk P w H h a o):a<h.objs.size:=by
 cases o with
 | lst xs=>obtain⟨_,_,_,_,e⟩:=x;exact Heap.lt_size e
 | tup xs=>obtain⟨_,_,_,p⟩:=x;exact p.lt
 | dK kvs=>obtain⟨_,_,_,_,o,_,_,e,_⟩:=x;exact Heap.lt_size e
 | dT kvs=>obtain⟨_,_,_,_,o,_,_,e,_⟩:=x;exact Heap.lt_size e
 | set S n=>obtain⟨o,_,_,_,e,_⟩:=x;exact Heap.lt_size e
 | ins C dx fs=>obtain⟨_,_,_,e,_⟩:=x;exact Heap.lt_size e
 | own y=>obtain⟨_,e⟩:=x;exact Heap.lt_size e
 | xd fs=>obtain⟨_,⟨_,_,_,e,_⟩,_⟩:=x;exact Heap.lt_size e
 | rng lo hi=>obtain⟨_,_,_,e⟩:=x;exact Heap.lt_size e
 | frz ob u=>obtain⟨e,_⟩:=x;exact Heap.lt_size e
 | tbl ps=>exact Heap.lt_size (show h.get? a=some _ from x)
 | met f y=>exact Heap.lt_size (show h.get? a=some _ from x)
 | ext φ=>obtain⟨_,⟨_,e⟩,_⟩:=x;exact Heap.lt_size e
theorem Paired.mapP {α β:Type}{F G:α->β->Prop}:∀ {l₁:List α} {l₂:List β},Paired F l₁ l₂->(∀a b,F a b->G a b)->Paired G l₁ l₂
 | _,_,.nil,_=> .nil
 | _,_,.cons r t,f=> .cons (f _ _ r) (Paired.mapP t f)
theorem ObjOk.stay (x:ObjOk P w H h a o)(k:∀ b u,(b=a\/H b=some (.own a))->h.get? b=some u->h'.get? b=some u)
  (ho:∀ b,H b=some (.own a)->H' b=some (.own a)) (ht:∀ b xs,H b=some (.tup xs)->H' b=some (.tup xs)):ObjOk P w H' h' a o:=by
 induction o with
 | lst xs=>obtain⟨z,its,n,r,e⟩:=x;exact⟨z,its,n,r,k _ _ (.inl rfl) e⟩
 | tup xs=>obtain⟨z,its,r,ob,e,c⟩:=x;exact⟨z,its,r,ob,k _ _ (.inl rfl) e,c⟩
 | dK kvs=>obtain⟨z,y,vs,r,ob,es,ep,e,c⟩:=x;exact⟨z,y,vs,r,ob,es,ep,k _ _ (.inl rfl) e,c⟩
 | dT kvs=>
  obtain⟨z,y,xs,r,ob,es,ep,e,c⟩:=x
  exact⟨z,y,xs,Paired.mapP r fun p q z=>⟨z.1,ht _ _ z.2.1,z.2.2⟩,ob,es,ep,k _ _ (.inl rfl) e,c⟩
 | set S n=>obtain⟨ob,es,ep,t,e,c⟩:=x;exact⟨ob,es,ep,t,k _ _ (.inl rfl) e,c⟩
 | ins C dx fs=>
  obtain⟨d,z,ne,e,mA,⟨od,es,ep,e2,c⟩,r⟩:=x
  exact⟨ho _ d,z,ne,k _ _ (.inl rfl) e,mA,⟨od,es,ep,k _ _ (.inr d) e2,c⟩,r⟩
 | own y=>obtain⟨ob,e⟩:=x;exact⟨ob,k _ _ (.inl rfl) e⟩
 | xd fs=>obtain⟨mA,⟨od,es,ep,e,c⟩,r⟩:=x;exact⟨mA,⟨od,es,ep,k _ _ (.inl rfl) e,c⟩,r⟩
 | rng lo hi=>obtain⟨t,u,v,e⟩:=x;exact⟨t,u,v,k _ _ (.inl rfl) e⟩
 | frz ob u ih=>obtain⟨e,q⟩:=x;exact⟨k _ _ (.inl rfl) e,ih q⟩
 | tbl ps=>
  have e:h.get? a=some { cls:=.none,data:=.fields ps }:=x
  show h'.get? a=some { cls:=.none,data:=.fields ps }
  exact k a _ (.inl rfl) e
 | met f y=>
  have e:h.get? a=some (PySem.W.methodObj (.ref f) (.ref y)):=x
  show h'.get? a=some (PySem.W.methodObj (.ref f) (.ref y))
  exact k a _ (.inl rfl) e
 | ext φ=>obtain⟨p,⟨o,e⟩,st⟩:=x;exact⟨st _ _ p fun o q=>k _ _ (.inl rfl) q,⟨o,k _ _ (.inl rfl) e⟩,st⟩
theorem HOk.lt (x:HOk P w H h)(e:H a=some o):a<h.objs.size:=(x a o e).lt
theorem HOk.fresh (x:HOk P w H h)(e:h.objs.size<=a):H a=none:=by
 cases q:H a with
 | none=>rfl
 | some u=>exact absurd (Nat.lt_of_lt_of_le (x.lt q) e) (Nat.lt_irrefl _)
theorem HOk.kept (x:HOk P w H h)(k:∀ b u,h.get? b=some u->h'.get? b=some u):HOk P w H h':=fun a o e=>
 (x a o e).stay (fun b u _ q=>k b u q) (fun _ q=>q) fun _ _ q=>q
theorem HOk.laid (x:HOk P w H h)(k:∀ b u,h.get? b=some u->h'.get? b=some u)(hp:h.objs.size<=a)(new:ObjOk P w (upd H a o) h' a o):HOk P w (upd H a o) h':=fun b u e=>by
 have hn:=x.fresh hp
 by_cases hb:b=a
 ·subst hb;rw [aG]at e;cases e;exact new
 ·rw [aA hb]at e
  exact(x b u e).stay (fun c v _ q=>k c v q) (fun c q=>by rw [aA (bO q hn)];exact q) fun c xs q=>by rw [aA (bO q hn)];exact q
end
def Rd (H:Hp)(a:Addr)(u:HO):Prop:=H a=some u\/∃ o,H a=some (.frz o u)
theorem Rd.ok {P:Program}{w:World}{H:Hp}{h:Heap}{a:Addr}{u:HO}(r:Rd H a u)(x:HOk P w H h):ObjOk P w H h a u:=by
 rcases r with r | ⟨o,r⟩
 ·exact x a u r
 ·obtain⟨_,q⟩:=x a _ r
  exact q
def Mut:Option HO->Prop
 | some (.lst _)=>True
 | some (.dK _)=>True
 | some (.dT _)=>True
 | some (.set _ _)=>True
 | some (.ins _ _ _)=>True
 | some (.ext _)=>True
 | _=>False
section
variable {P:Program}{w:World}{H:Hp}{h h':Heap}{x e:Addr}{o':HO}
theorem HOk.write (ok:HOk P w H h)(mu:Mut (H x))(he:e=x\/H e=some (.own x))(k:∀ b u,b≠e->h.get? b=some u->h'.get? b=some u)(heo:∃ u,h'.get? e=some u)
  (new:ObjOk P w (upd H x o') h' x o'):HOk P w (upd H x o') h':=fun b u q=>by
 have nown:∀ c y,H c=some (.own y)->c≠x:=fun c y r z=>by subst z;rw [r]at mu;exact mu
 have ntup:∀ c xs,H c=some (.tup xs)->c≠x:=fun c xs r z=>by subst z;rw [r]at mu;exact mu
 by_cases hb:b=x
 ·subst hb;rw [aG]at q;cases q;exact new
 ·rw [aA hb]at q
  by_cases hbe:b=e
  ·have q':H b=some (.own x):=by
    rcases he with z | z
    ·exact absurd (hbe.trans z) hb
    ·rw [hbe];exact z
   rw [q]at q';cases q'
   obtain⟨v,hv⟩:=heo
   exact⟨v,by rw [hbe];exact hv⟩
  ·refine(ok b u q).stay (fun c v hc r=>k c v ?_ r) (fun c r=>by rw [aA (nown c b r)];exact r) fun c xs r=>by rw [aA (ntup c xs r)];exact r
   rcases hc with rfl | hc
   ·exact hbe
   ·rintro rfl
    rcases he with z | z
    ·exact nown c b hc z
    ·rw [hc]at z;cases z;exact hb rfl
end
structure Un (fs ex:List Addr)(H H':Hp)(h h':Heap):Prop where
 keep:∀ b o,h.get? b=some o->H b=none->b∉fs->b∉ex->h'.get? b=some o
 slot:∀ b o,h.get? b=some o->H b=none->b∈fs->b∉ex->∃ sl,h'.get? b=some { o with slots:=sl }
 free:∀ b o,h.get? b=some o->H b=none->b∉ex->H' b=none
 there:∀ b o,h.get? b=some o->b∉ex->∃ o',h'.get? b=some o'
 tups:∀ b xs,H b=some (.tup xs)->H' b=some (.tup xs)
 frzs:∀ b o u,H b=some (.frz o u)->H' b=some (.frz o u)
 tbls:∀ b ps,H b=some (.tbl ps)->∃ more,H' b=some (.tbl (ps++more))
section
variable {fs fs' ex ex':List Addr}{H H1 H2:Hp}{h h1 h2 h':Heap}{a x e:Addr}{o:HO}
theorem Un.any (u:Un fs ex H H1 h h1){b:Addr}{ob:Obj}(q:h.get? b=some ob)(n:H b=none)(hx:b∉ex):∃ sl,h1.get? b=some { ob with slots:=sl }:=by
 by_cases hb:b∈fs
 ·exact u.slot b ob q n hb hx
 ·exact⟨ob.slots,u.keep b ob q n hb hx⟩
theorem Un.kept (k:∀ b u,h.get? b=some u->h'.get? b=some u):Un fs ex H H h h':=
 ⟨fun b ob q _ _ _=>k b ob q,fun b ob q _ _ _=>⟨ob.slots,k b ob q⟩,fun _ _ _ n _=>n,fun b ob q _=>⟨ob,k b ob q⟩,fun _ _ q=>q,fun _ _ _ q=>q,fun _ ps q=>⟨#[],by rw [q];simp⟩⟩
theorem Un.refl:Un fs ex H H h h:=Un.kept fun _ _ q=>q
theorem Un.laid (k:∀ b u,h.get? b=some u->h'.get? b=some u)(hp:h.objs.size<=a)(hn:H a=none):Un fs ex H (upd H a o) h h' where
 keep:=fun b u q _ _ _=>k b u q
 slot:=fun b u q _ _ _=>⟨u.slots,k b u q⟩
 free:=fun b u q n _=>by rw [aA (Nat.ne_of_lt (Nat.lt_of_lt_of_le (Heap.lt_size q) hp))];exact n
 there:=fun b u q _=>⟨u,k b u q⟩
 tups:=fun b xs q=>by rw [aA (bO q hn)];exact q
 frzs:=fun b u xs q=>by rw [aA (bO q hn)];exact q
 tbls:=fun b ps q=>⟨#[],by rw [aA (bO q hn),q];simp⟩
theorem Un.write (mu:Mut (H x))(he:e=x\/H e=some (.own x))(k:∀ b u,b≠e->h.get? b=some u->h'.get? b=some u)(heo:∃ u,h'.get? e=some u):Un fs ex H (upd H x o) h h':=by
 have hx:∀ b,H b=none->b≠x:=fun b n z=>by subst z;rw [n]at mu;exact mu
 have hb:∀ b,H b=none->b≠e:=fun b n z=>by
  subst z
  rcases he with r | r
  ·exact hx b n r
  ·rw [n]at r;cases r
 have hm:∀ b u,H b=some u->¬ Mut (some u)->b≠x:=fun b u q nm z=>by subst z;rw [q]at mu;exact nm mu
 refine⟨fun b u q n _ _=>k b u (hb b n) q,fun b u q n _ _=>⟨u.slots,k b u (hb b n) q⟩,fun b u q n _=>by rw [aA (hx b n)];exact n,fun b u q _=> ?_,
  fun b xs q=>by rw [aA (hm b _ q fun z=>z)];exact q,fun b u xs q=>by rw [aA (hm b _ q fun z=>z)];exact q,fun b ps q=>⟨#[],by rw [aA (hm b _ q fun z=>z),q];simp⟩⟩
 by_cases hbe:b=e
 ·subst hbe;exact heo
 ·exact⟨u,k b u hbe q⟩
end
def trk (h:Heap)(H:Hp):List Addr:=(List.range h.objs.size).filter fun a=>(H a).isSome
def hidT (h:Heap)(H:Hp):Heap:=PySem.W.hideAll h (trk h H)
theorem hidT_size (h:Heap)(H:Hp):(hidT h H).objs.size=h.objs.size:=PySem.W.hideAll_size _ _
theorem hidT_get {h:Heap}{H:Hp}{b:Addr}{o:Obj}(e:h.get? b=some o)(n:H b=none):(hidT h H).get? b=some o:=
 PySem.W.hideAll_get _ e fun hm=>by
  have q:(H b).isSome=true:=(List.mem_filter.mp hm).2
  rw [n]at q;simp at q
theorem of_hidT {h:Heap}{H:Hp}{b:Addr}{o:Obj}(e:(hidT h H).get? b=some o):h.get? b=some o/\H b=none:=by
 have e':h.get? b=some o:=PySem.W.of_hideAll (trk h H) e
 refine⟨e',?_⟩
 cases q:H b with
 | none=>rfl
 | some x=>
  have hm:b∈trk h H:=List.mem_filter.mpr ⟨List.mem_range.mpr (Heap.lt_size e'),by simp [q]⟩
  have z:(hidT h H).get? b=none:=PySem.W.hideAll_none (trk h H) hm
  rw [z]at e;cases e
def allNews (g h:Heap)(L:Addr):List (Addr×Obj):=(List.range h.objs.size).filterMap fun a=>if a=L\/(g.get? a).isSome=true then none else(h.get? a).map fun o=>(a,o)
def cq (g h:Heap)(L d:Addr):List (Addr×Obj):=(allNews g h L).filter fun p=>decide (p.1≠d)
structure Mod (K:PySem.W.Frag)(mg:Str->Option Value)(base:Heap):Prop where
 kin:K.In base
 glob:base.Ns mainGlobals mg
 blt:∃ mb,base.Ns builtinsNs mb/\∀ x:Str,x≠ "__name__"->mb x=bootBuiltins x
 nolimit:base.NoLimit
structure Cx where
 prog:Program
 w:World
 K:PySem.W.Frag
 mg:Str->Option Value
 base:Heap
 A:Around
 N:List Str
 s₀:Shared
 H₀:Hp
 env:Env
 outer:List Env
 stack:List Env
 ex:List Addr
 fn:Str->Bool
 calm:Bool
 pn:List (Addr×Obj)
 xe:Value->Shared->Prop
def frs (l:List Env):List Addr:=l.filterMap (·.frame)
abbrev Cx.fs (X:Cx):List Addr:=frs X.outer
def Vis (sc:Scope)(x:Str):Prop:=sc.names.lookup x=some .local\/sc.names.lookup x=some .cell\/sc.names.lookup x=some .free
def Loc (sc:Scope)(x:Str):Prop:=sc.names.lookup x=some .local\/sc.names.lookup x=some .cell
def Look (env:Env)(h:Heap)(m:Str->Option Value)(x:Str)(u:Value):Prop:=
 (env.kindOf x=some .local/\m x=some u)\/((env.kindOf x=some .cell\/env.kindOf x=some .free)/\∃ c,env.cells.lookup x=some c/\h.IsCell c (some u))
structure Cx.Ok (X:Cx):Prop where
 mod:Mod X.K X.mg X.base
 kind:X.env.scope.kind= .function
 glob:X.env.globals=mainGlobals
 blt:X.env.builtins=builtinsNs
 above:X.s₀.heap.objs.size<=X.env.locals
 inj:∀ x y c,X.env.cells.lookup x=some c->X.env.cells.lookup y=some c->x=y
 has:∀ x,(X.env.kindOf x=some .cell\/X.env.kindOf x=some .free)->∃ c,X.env.cells.lookup x=some c
 cab:∀ x c,X.fn x=true->X.env.cells.lookup x=some c->X.s₀.heap.objs.size<=c
 hd:X.calm=true->X.A.handled=none
 frames:X.A.frames=some X.stack
 stk:X.stack=X.outer\/(X.stack=X.env::X.outer/\X.env.frame=some X.env.locals)
 exf:∀ b∈X.ex,b≠X.env.locals/\∀ x c,X.env.cells.lookup x=some c->c≠b
 bs:∀ b o,X.base.get? b=some o->X.s₀.heap.get? b=some o/\X.H₀ b=none
 bsz:X.base.objs.size<=X.s₀.heap.objs.size
 noex:∀ b o,X.base.get? b=some o->b∉X.ex
 exfs:∀ b∈X.ex,b∉X.fs
 funs:X.s₀.heap.FunFrames X.base X.outer
 frf:∀ b∈X.fs,X.H₀ b=none
structure Inv (X:Cx)(pins:List (Addr×Obj))(σ:List (Option V))(H:Hp)(s:Shared):Prop where
 ok:X.Ok
 os:s.os=X.s₀.os
 bare:AllBare s.gens
 base:Un X.fs X.ex X.H₀ H X.s₀.heap s.heap
 loc:∃ m,s.heap.Ns X.env.locals m/\∀ (i:Nat) (x:Str) (v:V),X.N[i]? =some x->σ[i]? =some (some v)->Vis X.env.scope x->∃ u,RelV v u/\Look X.env s.heap m x u
 cell:∀ x c,X.env.cells.lookup x=some c->∃ v,s.heap.IsCell c v
 free:H X.env.locals=none
 freeC:∀ x c,X.env.cells.lookup x=some c->H c=none
 pin:∀ p∈X.pn++pins,s.heap.get? p.1=some p.2/\H p.1=none/\p.1≠X.env.locals/\p.1∉X.fs/\∀ v,p.2.data≠ .cell v
 hok:HOk X.prog X.w H s.heap
 len:σ.length=X.N.length
section
variable {X:Cx}{pins:List (Addr×Obj)}{σ:List (Option V)}{H H':Hp}{s:Shared}{h':Heap}
theorem Cx.Ok.nofr (ok:X.Ok){b:Addr}{o:Obj}(e:X.base.get? b=some o):b∉X.fs:=fun hb=>by
 have:=(ok.funs.mem hb).1
 rw [e]at this;cases this
theorem Inv.bs (I:Inv X pins σ H s):∀ b o,X.base.get? b=some o->s.heap.get? b=some o/\H b=none:=fun b o e=>
 ⟨I.base.keep b o (I.ok.bs b o e).1 (I.ok.bs b o e).2 (I.ok.nofr e) (I.ok.noex b o e),I.base.free b o (I.ok.bs b o e).1 (I.ok.bs b o e).2 (I.ok.noex b o e)⟩
theorem Inv.bk (I:Inv X pins σ H s):∀ b o,X.base.get? b=some o->s.heap.get? b=some o:=fun b o e=>(I.bs b o e).1
theorem Inv.mod (I:Inv X pins σ H s):Mod X.K X.mg X.base:=I.ok.mod
theorem Inv.kIn (I:Inv X pins σ H s):X.K.In s.heap:=I.ok.mod.kin.keeps I.bk
theorem Inv.lt (I:Inv X pins σ H s):X.env.locals<s.heap.objs.size:=let ⟨_,hn,_⟩:=I.loc;hn.lt
theorem Inv.sz (I:Inv X pins σ H s):X.s₀.heap.objs.size<=s.heap.objs.size:=Nat.le_trans I.ok.above (Nat.le_of_lt I.lt)
theorem Inv.nofs (I:Inv X pins σ H s){a:Addr}(h:s.heap.objs.size<=a):a∉X.fs:=fun hb=>by
 obtain⟨_,o,ho,_⟩:=I.ok.funs.mem hb
 exact absurd (Nat.lt_of_lt_of_le (Heap.lt_size ho) (Nat.le_trans I.sz h)) (Nat.lt_irrefl _)
theorem Inv.cne (I:Inv X pins σ H s):∀ x c,X.env.cells.lookup x=some c->c≠X.env.locals:=fun x c e z=>by
 obtain⟨v,o,ho,hd⟩:=I.cell x c e
 obtain⟨m,⟨o',es,ep,ho',hd',_⟩,_⟩:=I.loc
 rw [z,ho']at ho;cases ho;rw [hd']at hd;cases hd
theorem Inv.funs (I:Inv X pins σ H s):s.heap.FunFrames X.base X.outer:=by
 have all:∀ (l:List Env),(∀b∈frs l,b∈X.fs)->X.s₀.heap.FunFrames X.base l->s.heap.FunFrames X.base l:=by
  intro l
  induction l with
  | nil=>intro _ _;trivial
  | cons env r ih=>
   intro hs hl
   obtain⟨hk,⟨L,o,hf,hn,ho,hd⟩,hr⟩:=hl
   have hL:L∈X.fs:=hs L (by unfold frs;rw [List.filterMap_cons,hf];exact List.mem_cons_self)
   obtain⟨sl,e⟩:=I.base.slot L o ho (I.ok.frf L hL) hL fun z=>I.ok.exfs L z hL
   exact⟨hk,⟨L,_,hf,hn,e,hd⟩,ih (fun b hb=>hs b (by unfold frs;rw [List.filterMap_cons,hf];exact List.mem_cons_of_mem _ hb)) hr⟩
 exact all X.outer (fun _ hb=>hb) I.ok.funs
theorem Inv.stack (I:Inv X pins σ H s):s.heap.FunFrames X.base X.stack:=by
 rcases I.ok.stk with e | ⟨e,hf⟩
 ·rw [e];exact I.funs
 ·rw [e]
  obtain⟨m,hn,_⟩:=I.loc
  refine .cons (by rw [I.ok.kind];decide) hf hn ?_ I.funs
  exact Heap.get?_none_of_le (Nat.le_trans I.ok.bsz I.ok.above)
theorem Inv.stkSub (I:Inv X pins σ H s):∀ b∈frs X.stack,b∈X.env.locals::X.fs:=fun b hb=>by
 rcases I.ok.stk with e | ⟨e,hf⟩
 ·rw [e]at hb;exact List.mem_cons_of_mem _ hb
 ·rw [e]at hb
  unfold frs at hb
  rw [List.filterMap_cons,hf]at hb
  exact hb
theorem Inv.stkFree (I:Inv X pins σ H s):∀ b∈frs X.stack,H b=none:=fun b hb=>by
 rcases List.mem_cons.mp (I.stkSub b hb)with e | hb
 ·rw [e];exact I.free
 ·obtain⟨_,o,ho,_⟩:=I.ok.funs.mem hb
  exact I.base.free b o ho (I.ok.frf b hb) fun z=>I.ok.exfs b z hb
theorem Inv.step {g':Array GenState}{t':Nat}{d':Drawn}{ch:List Addr}(I:Inv X pins σ H s)
  (hch:∀ b∈ch,(b∈X.ex\/X.s₀.heap.objs.size<=b)/\b≠X.env.locals/\(∀x c,X.env.cells.lookup x=some c->c≠b)/\∀ p∈X.pn++pins,p.1≠b)
  (keep:∀ b o,b≠X.env.locals->b∉X.fs->b∉ch->s.heap.get? b=some o->H b=none->h'.get? b=some o)
  (slot:∀ b o,b≠X.env.locals->b∈X.fs->b∉ch->s.heap.get? b=some o->H b=none->∃ sl,h'.get? b=some { o with slots:=sl }) (free:∀ b o,b∉ch->s.heap.get? b=some o->H b=none->H' b=none)
  (there:∀ b o,b∉ch->s.heap.get? b=some o->∃ o',h'.get? b=some o')
  (tups:∀ b xs,H b=some (.tup xs)->H' b=some (.tup xs)) (frzs:∀ b o u,H b=some (.frz o u)->H' b=some (.frz o u)) (tbls:∀ b ps,H b=some (.tbl ps)->∃ more,H' b=some (.tbl (ps++more)))
  (ns:∀ m,s.heap.Ns X.env.locals m->h'.Ns X.env.locals m) (hok:HOk X.prog X.w H' h') (hg:AllBare g') :
  Inv X pins σ H' { s with heap:=h',gens:=g',drawn:=d',toks:=t' }:=by
 have neL:∀ b o,X.s₀.heap.get? b=some o->b≠X.env.locals:=fun b o e=>Nat.ne_of_lt (Nat.lt_of_lt_of_le (Heap.lt_size e) I.ok.above)
 have neC:∀ b o,X.s₀.heap.get? b=some o->b∉X.ex->b∉ch:=fun b o e hx hb=>by
  rcases(hch b hb).1 with z | z
  ·exact hx z
  ·exact absurd (Nat.lt_of_lt_of_le (Heap.lt_size e) z) (Nat.lt_irrefl _)
 have cellK:∀ x c,X.env.cells.lookup x=some c->∀ v,s.heap.IsCell c v->h'.IsCell c v:=fun x c e v hh_=>by
  obtain⟨o,ho,hd⟩:=hh_
  have nch:c∉ch:=fun z=>(hch c z).2.2.1 x c e rfl
  by_cases hc:c∈X.fs
  ·obtain⟨sl,q⟩:=slot c o (I.cne x c e) hc nch ho (I.freeC x c e)
   exact⟨_,q,hd⟩
  ·exact⟨o,keep c o (I.cne x c e) hc nch ho (I.freeC x c e),hd⟩
 refine⟨I.ok,I.os,hg,⟨fun b o e n hb hx=> ?_,fun b o e n hb hx=> ?_,fun b o e n hx=> ?_,fun b o e hx=> ?_,fun b xs e=>tups b xs (I.base.tups b xs e),fun b o xs e=>frzs b o xs (I.base.frzs b o xs e),fun b ps e=> ?_⟩,?_,fun x c e=> ?_,?_,fun x c e=> ?_,fun p hp=> ?_,hok,I.len⟩
 ·exact keep b o (neL b o e) hb (neC b o e hx) (I.base.keep b o e n hb hx) (I.base.free b o e n hx)
 ·obtain⟨sl,e1⟩:=I.base.slot b o e n hb hx
  obtain⟨sl',e2⟩:=slot b _ (neL b o e) hb (neC b o e hx) e1 (I.base.free b o e n hx)
  exact⟨sl',e2⟩
 ·obtain⟨o',e1⟩:=I.base.there b o e hx
  exact free b o' (neC b o e hx) e1 (I.base.free b o e n hx)
 ·obtain⟨o',e1⟩:=I.base.there b o e hx
  exact there b o' (neC b o e hx) e1
 ·obtain⟨m1,e1⟩:=I.base.tbls b ps e
  obtain⟨m2,e2⟩:=tbls b _ e1
  exact⟨m1++m2,by rw [e2,Array.append_assoc]⟩
 ·obtain⟨m,hn,hl⟩:=I.loc
  refine⟨m,ns m hn,fun i x v e1 e2 e3=> ?_⟩
  obtain⟨u,r,l⟩:=hl i x v e1 e2 e3
  refine⟨u,r,?_⟩
  rcases l with l | ⟨k,c,e,z⟩
  ·exact .inl l
  ·exact .inr ⟨k,c,e,cellK x c e _ z⟩
 ·obtain⟨v,z⟩:=I.cell x c e
  exact⟨v,cellK x c e v z⟩
 ·obtain⟨m,⟨o,_,_,ho,_⟩,_⟩:=I.loc
  exact free _ o (fun z=>(hch _ z).2.1 rfl) ho I.free
 ·obtain⟨v,o,ho,hd⟩:=I.cell x c e
  exact free c o (fun z=>(hch c z).2.2.1 x c e rfl) ho (I.freeC x c e)
 ·obtain⟨e,n,ne,nf,d⟩:=I.pin p hp
  have nch:p.1∉ch:=fun z=>(hch p.1 z).2.2.2 p hp rfl
  exact⟨keep p.1 p.2 ne nf nch e n,free p.1 p.2 nch e n,ne,nf,d⟩
theorem Inv.un {t':Nat}(I:Inv X pins σ H s)(u:Un X.fs [] H H' s.heap h')(hok:HOk X.prog X.w H' h'):Inv X pins σ H' { s with heap:=h',toks:=t' }:=by
 obtain⟨m,⟨o,es,ep,ho,r⟩,_⟩:=id I.loc
 obtain⟨sl,hL⟩:=u.any ho I.free (by simp)
 exact I.step (g':=s.gens) (d':=s.drawn) (ch:=[]) (fun _ z=>nomatch z) (fun b o _ hb _ e n=>u.keep b o e n hb (by simp)) (fun b o _ hb _ e n=>u.slot b o e n hb (by simp)) (fun b o _ e n=>u.free b o e n (by simp)) (fun b o _ e=>u.there b o e (by simp)) u.tups u.frzs u.tbls (fun m' hm=>by
  obtain⟨o',es',ep',ho',r'⟩:=hm
  rw [ho]at ho';cases ho'
  exact⟨_,es',ep',hL,r'⟩) hok I.bare
theorem Inv.call {g':Array GenState}{t':Nat}{d':Drawn}{ch:List Addr}(I:Inv X pins σ H s)(u:Un (frs X.stack) ch H H' s.heap h')(hok:HOk X.prog X.w H' h')(hg:AllBare g')
  (hch:∀ b∈ch,(b∈X.ex\/X.s₀.heap.objs.size<=b)/\b≠X.env.locals/\(∀x c,X.env.cells.lookup x=some c->c≠b)/\∀ p∈X.pn++pins,p.1≠b) :
  Inv X pins σ H' { s with heap:=h',gens:=g',drawn:=d',toks:=t' }:=by
 obtain⟨m,⟨o,es,ep,ho,r⟩,_⟩:=id I.loc
 obtain⟨sl,hL⟩:=u.any ho I.free fun z=>(hch _ z).2.1 rfl
 exact I.step (ch:=ch) hch (fun b o hL hb hc e n=>u.keep b o e n (fun z=>(List.mem_cons.mp (I.stkSub b z)).elim hL hb) hc) (fun b o _ _ hc e n=>u.any e n hc) (fun b o hc e n=>u.free b o e n hc) (fun b o hc e=>u.there b o e hc) u.tups u.frzs u.tbls (fun m' hm=>by
  obtain⟨o',es',ep',ho',r'⟩:=hm
  rw [ho]at ho';cases ho'
  exact⟨_,es',ep',hL,r'⟩) hok hg
theorem Inv.turned {t':Nat}{it:Addr}(I:Inv X pins σ H s)(k:∀ b o,b≠it->s.heap.get? b=some o->h'.get? b=some o)(hn:H it=none)(hL:it≠X.env.locals)
  (h1:it∈X.ex\/X.s₀.heap.objs.size<=it) (h2:∀ x c,X.env.cells.lookup x=some c->c≠it) (h3:∀ p∈X.pn++pins,p.1≠it):Inv X pins σ H { s with heap:=h',toks:=t' }:=by
 have nit:∀ b u,H b=some u->b≠it:=fun b u e z=>by rw [z,hn]at e;cases e
 refine I.step (g':=s.gens) (d':=s.drawn) (ch:=[it]) (fun b hb=> ?_) (fun b o _ _ hc e _=>k b o (fun z=>hc (by simp [z])) e) (fun b o _ _ hc e _=>⟨o.slots,k b o (fun z=>hc (by simp [z])) e⟩) (fun _ _ _ _ n=>n)
  (fun b o hc e=>⟨o,k b o (fun z=>hc (by simp [z])) e⟩) (fun _ _ e=>e) (fun _ _ _ e=>e) (fun b ps e=>⟨#[],by rw [e];simp⟩) (fun m hm=> ?_) (fun b u e=> ?_) I.bare
 ·have e:b=it:=by simpa using hb
  subst e
  exact⟨h1,hL,h2,h3⟩
 ·obtain⟨o,es,ep,ho,r⟩:=hm
  exact⟨o,es,ep,k _ o (Ne.symm hL) ho,r⟩
 ·refine(I.hok b u e).stay (fun c v hc q=>k c v ?_ q) (fun _ q=>q) fun _ _ q=>q
  rcases hc with z | z
  ·rw [z];exact nit b u e
  ·exact nit c _ z
theorem Inv.tok (I:Inv X pins σ H s)(t:Nat):Inv X pins σ H { s with toks:=t }:=I.un (h':=s.heap) (t':=t) Un.refl I.hok
theorem Inv.kept {t':Nat}(I:Inv X pins σ H s)(k:∀ b u,s.heap.get? b=some u->h'.get? b=some u):Inv X pins σ H { s with heap:=h',toks:=t' }:=I.un (Un.kept k) (I.hok.kept k)
theorem Inv.laid {a:Addr}{o:HO}{t':Nat}(I:Inv X pins σ H s)(k:∀ b u,s.heap.get? b=some u->h'.get? b=some u)(hp:s.heap.objs.size<=a)(new:ObjOk X.prog X.w (upd H a o) h' a o) :
  Inv X pins σ (upd H a o) { s with heap:=h',toks:=t' }:=I.un (Un.laid k hp (I.hok.fresh hp)) (I.hok.laid k hp new)
theorem Inv.write {x e:Addr}{o:HO}{t':Nat}(I:Inv X pins σ H s)(mu:Mut (H x))(he:e=x\/H e=some (.own x))(k:∀ b u,b≠e->s.heap.get? b=some u->h'.get? b=some u)(heo:∃ u,h'.get? e=some u)
  (new:ObjOk X.prog X.w (upd H x o) h' x o):Inv X pins σ (upd H x o) { s with heap:=h',toks:=t' }:=I.un (Un.write mu he k heo) (I.hok.write mu he k heo new)
theorem Inv.pins_of {pins':List (Addr×Obj)}(I:Inv X pins σ H s)(h:∀ p∈pins',s.heap.get? p.1=some p.2/\H p.1=none/\p.1≠X.env.locals/\p.1∉X.fs/\∀ v,p.2.data≠ .cell v):Inv X pins' σ H s:=
 ⟨I.ok,I.os,I.bare,I.base,I.loc,I.cell,I.free,I.freeC,fun p hp=>(List.mem_append.mp hp).elim (fun z=>I.pin p (List.mem_append_left _ z)) (h p),I.hok,I.len⟩
theorem nodup_ix {N:List Str}(hN:N.Nodup){i j:Nat}{x:Str}(a:N[i]? =some x)(b:N[j]? =some x):i=j:=by
 obtain⟨h1,e1⟩:=List.getElem?_eq_some_iff.mp a
 obtain⟨h2,e2⟩:=List.getElem?_eq_some_iff.mp b
 exact(List.getElem_inj hN).mp (e1.trans e2.symm)
theorem store_ok2 {M:Model}{A:Around}{E:Value->Shared->Prop}{i:Nat}{x:Str}{v:V}{u:Value}{Q:Unit->Shared->Prop}(I:Inv X pins σ H s)(hN:X.N.Nodup)(hi:X.N[i]? =some x)(hx:Loc X.env.scope x)(r:RelV v u)
  (h:∀ s',Inv X pins (σ.set i (some v)) H s'->(∃a,Heap.SameBut a s.heap s'.heap/\(a=X.env.locals\/X.env.cells.lookup x=some a))->Q () s') (hf:X.fn x=true\/X.env.scope.names.lookup x=some .local:=by first | exact .inl rfl | exact .inr rfl | assumption):wpAny M A (storeName X.env x u) Q E s:=by
 obtain⟨m,hn,hl⟩:=id I.loc
 have hcls:(X.env.scope.kind == .class||(X.env.scope.kind == .module&&X.env.locals != X.env.globals))=false:=by rw [I.ok.kind];rfl
 have hiσ:i<σ.length:=by rw [I.len];exact(List.getElem?_eq_some_iff.mp hi).1
 have cne:=I.cne
 have tracked:∀ {a:Addr} {h':Heap},(∃o,s.heap.get? a=some o/\H a=none)->Heap.SameBut a s.heap h'->HOk X.prog X.w H h':=fun {a h'} ha hs b ob e=>by
  obtain⟨_,_,hfree⟩:=ha
  refine(I.hok b ob e).stay (fun c w' hc q=>(hs.2 c ?_).trans q) (fun _ q=>q) fun _ _ q=>q
  rintro rfl
  rcases hc with rfl | hc
  ·rw [hfree]at e;cases e
  ·rw [hfree]at hc;cases hc
 rcases hx with hk | hk
 ·refine wpAny_storeName_local hk hn (fun h' hn' hs=> ?_) hcls
  obtain⟨oL,_,_,hoL,_⟩:=id hn
  refine h _ ⟨I.ok,I.os,I.bare,⟨fun b o e n hb hx=> ?_,fun b o e n hb hx=> ?_,I.base.free,fun b o e hx=> ?_,I.base.tups,I.base.frzs,I.base.tbls⟩,⟨_,hn',fun j y v' e1 e2 e3=> ?_⟩,fun y c e=> ?_,I.free,I.freeC,fun p hp=> ?_,tracked ⟨oL,hoL,I.free⟩ hs,by simpa using I.len⟩ ⟨_,hs,.inl rfl⟩
  ·exact(hs.2 b (Nat.ne_of_lt (Nat.lt_of_lt_of_le (Heap.lt_size e) I.ok.above))).trans (I.base.keep b o e n hb hx)
  ·obtain⟨sl,e1⟩:=I.base.slot b o e n hb hx
   exact⟨sl,(hs.2 b (Nat.ne_of_lt (Nat.lt_of_lt_of_le (Heap.lt_size e) I.ok.above))).trans e1⟩
  ·obtain⟨o',e1⟩:=I.base.there b o e hx
   exact⟨o',(hs.2 b (Nat.ne_of_lt (Nat.lt_of_lt_of_le (Heap.lt_size e) I.ok.above))).trans e1⟩
  ·by_cases hj:j=i
   ·subst hj
    rw [hi]at e1;cases e1
    rw [List.getElem?_set_self hiσ]at e2
    cases e2
    exact⟨u,r,.inl ⟨hk,by simp⟩⟩
   ·rw [List.getElem?_set_ne (Ne.symm hj)]at e2
    obtain⟨u',r',q⟩:=hl j y v' e1 e2 e3
    refine⟨u',r',?_⟩
    rcases q with⟨k,e⟩ | ⟨k,c,e,z⟩
    ·refine .inl ⟨k,?_⟩
     have:y≠x:=fun e=>hj (nodup_ix hN e1 (e▸hi))
     simp [this,e]
    ·exact .inr ⟨k,c,e,z.sameBut hs (cne y c e)⟩
  ·obtain⟨w',z⟩:=I.cell y c e
   exact⟨w',z.sameBut hs (cne y c e)⟩
  ·obtain⟨e,n,ne,nf,d⟩:=I.pin p hp
   exact⟨(hs.2 p.1 ne).trans e,n,ne,nf,d⟩
 ·have hfn:X.fn x=true:=by
   rcases hf with z | z
   ·exact z
   ·rw [z]at hk;cases hk
  obtain⟨c,hc⟩:=I.ok.has x (.inl hk)
  obtain⟨w',z⟩:=I.cell x c hc
  refine wpAny_storeName_cell I.ok.kind hk hc z (fun h' hc' hs=> ?_)
  obtain⟨oc,hoc,hocd⟩:=id z
  refine h { s with heap:=h' } ⟨I.ok,I.os,I.bare,⟨fun b o e n hb hx=> ?_,fun b o e n hb hx=> ?_,I.base.free,fun b o e hx=> ?_,I.base.tups,I.base.frzs,I.base.tbls⟩,⟨m,hn.sameBut hs (Ne.symm (cne x c hc)),fun j y v' e1 e2 e3=> ?_⟩,fun y c' e=> ?_,I.free,I.freeC,fun p hp=> ?_,tracked ⟨oc,hoc,I.freeC x c hc⟩ hs,by simpa using I.len⟩ ⟨c,hs,.inr hc⟩
  ·exact(hs.2 b (Nat.ne_of_lt (Nat.lt_of_lt_of_le (Heap.lt_size e) (I.ok.cab x c hfn hc)))).trans (I.base.keep b o e n hb hx)
  ·obtain⟨sl,e1⟩:=I.base.slot b o e n hb hx
   exact⟨sl,(hs.2 b (Nat.ne_of_lt (Nat.lt_of_lt_of_le (Heap.lt_size e) (I.ok.cab x c hfn hc)))).trans e1⟩
  ·obtain⟨o',e1⟩:=I.base.there b o e hx
   exact⟨o',(hs.2 b (Nat.ne_of_lt (Nat.lt_of_lt_of_le (Heap.lt_size e) (I.ok.cab x c hfn hc)))).trans e1⟩
  ·by_cases hj:j=i
   ·subst hj
    rw [hi]at e1;cases e1
    rw [List.getElem?_set_self hiσ]at e2
    cases e2
    exact⟨u,r,.inr ⟨.inl hk,c,hc,hc'⟩⟩
   ·rw [List.getElem?_set_ne (Ne.symm hj)]at e2
    obtain⟨u',r',q⟩:=hl j y v' e1 e2 e3
    refine⟨u',r',?_⟩
    rcases q with q | ⟨k,c',e,z'⟩
    ·exact .inl q
    ·refine .inr ⟨k,c',e,z'.sameBut hs ?_⟩
     rintro rfl
     exact hj (nodup_ix hN e1 (I.ok.inj _ _ _ e hc▸hi))
  ·by_cases hcc:c'=c
   ·subst hcc;exact⟨_,hc'⟩
   ·obtain⟨w2,z2⟩:=I.cell y c' e
    exact⟨w2,z2.sameBut hs hcc⟩
  ·obtain⟨e,n,ne,nf,d⟩:=I.pin p hp
   refine⟨(hs.2 p.1 ?_).trans e,n,ne,nf,d⟩
   intro q
   rw [q,hoc]at e
   have q':oc=p.2:=Option.some.inj e
   exact d w' (by rw [<-q'];exact hocd)
theorem store_ok {M:Model}{A:Around}{E:Value->Shared->Prop}{i:Nat}{x:Str}{v:V}{u:Value}{Q:Unit->Shared->Prop}(I:Inv X pins σ H s)(hN:X.N.Nodup)(hi:X.N[i]? =some x)(hx:Loc X.env.scope x)(r:RelV v u)
  (h:∀ s',Inv X pins (σ.set i (some v)) H s'->Q () s') (hf:X.fn x=true\/X.env.scope.names.lookup x=some .local:=by first | exact .inl rfl | exact .inr rfl | assumption):wpAny M A (storeName X.env x u) Q E s:=
 store_ok2 I hN hi hx r (fun s' I' _=>h s' I') hf
theorem Inv.call' {s':Shared}{ch:List Addr}(I:Inv X pins σ H s)(ho:s'.os=s.os)(u:Un (frs X.stack) ch H H' s.heap s'.heap)(hok:HOk X.prog X.w H' s'.heap)(hg:AllBare s'.gens)
  (hch:∀ b∈ch,(b∈X.ex\/X.s₀.heap.objs.size<=b)/\b≠X.env.locals/\(∀x c,X.env.cells.lookup x=some c->c≠b)/\∀ p∈X.pn++pins,p.1≠b):Inv X pins σ H' s':=by
 obtain⟨h',g',d',t',o'⟩:=s'
 have e:o'=s.os:=ho
 subst e
 exact I.call (g':=g') (t':=t') (d':=d') u hok hg hch
end
abbrev XK:=Value->Option Addr->Hp->Prop
abbrev St:=List (Option V)
abbrev VK:=V->Hp->Prop
abbrev TE:=St->Hp->VK->Prop
abbrev TT:=St->Hp->(Bool->Hp->Prop)->Prop
abbrev TA:=St->Hp->(List V->Hp->Prop)->Prop
structure Ends where
 nx:St->Hp->Prop
 rt:VK
 bk:St->Hp->Prop:=fun _ _=>False
 ct:St->Hp->Prop:=fun _ _=>False
abbrev TS:=Ends->St->Hp->Prop
def EP (X:Cx)(pins:List (Addr×Obj))(σ:St)(Q:VK)(u:Value)(s':Shared):Prop:=∃ v H',Inv X pins σ H' s'/\RelV v u/\Q v H'
def TP (X:Cx)(pins:List (Addr×Obj))(σ:St)(Q:Bool->Hp->Prop)(b:Bool)(s':Shared):Prop:=∃ H',Inv X pins σ H' s'/\Q b H'
def AP (X:Cx)(pins:List (Addr×Obj))(σ:St)(Q:List V->Hp->Prop)(us:List Value)(s':Shared):Prop:=∃ vs H',Inv X pins σ H' s'/\Vals vs us/\Q vs H'
def SP (X:Cx)(pins:List (Addr×Obj))(D:Ends)(f:Flow)(s':Shared):Prop:=
 match f with
 | .next=> ∃σ' H',Inv X pins σ' H' s'/\D.nx σ' H'
 | .brk=> ∃σ' H',Inv X pins σ' H' s'/\D.bk σ' H'
 | .cont=> ∃σ' H',Inv X pins σ' H' s'/\D.ct σ' H'
 | .ret u=> ∃v σ' H',Inv X pins σ' H' s'/\RelV v u/\D.rt v H'
def PE (X:Cx)(e:Expr)(t:TE):Prop:=
 ∀(pins:List (Addr×Obj)) (s:Shared) (σ:St) (H:Hp) (Q:VK),Inv X pins σ H s->t σ H Q->wpAny (model X.prog X.w) X.A (eval e X.env) (EP X pins σ Q) X.xe s
def PT (X:Cx)(e:Expr)(t:TT):Prop:=
 ∀(pins:List (Addr×Obj)) (s:Shared) (σ:St) (H:Hp) (Q:Bool->Hp->Prop),Inv X pins σ H s->t σ H Q->wpAny (model X.prog X.w) X.A (isTrue e X.env (eval e X.env)) (TP X pins σ Q) X.xe s
def PW (X:Cx)(e:Expr)(t:TT):Prop:=
 ∀(whole:Sem Value) (pins:List (Addr×Obj)) (s:Shared) (σ:St) (H:Hp) (Q:Bool->Hp->Prop),Inv X pins σ H s->t σ H Q->wpAny (model X.prog X.w) X.A (isTrue e X.env whole) (TP X pins σ Q) X.xe s
theorem PW.pt {X:Cx}{e:Expr}{t:TT}(h:PW X e t):PT X e t:=h _
def PA (X:Cx)(es:List Expr)(t:TA):Prop:=
 ∀(pos:Pos) (pins:List (Addr×Obj)) (s:Shared) (σ:St) (H:Hp) (Q:List V->Hp->Prop),Inv X pins σ H s->t σ H Q->wpAny (model X.prog X.w) X.A (spliced (backTo pos (starEach es X.env))) (AP X pins σ Q) X.xe s
def PS (X:Cx)(st:Stmt)(t:TS):Prop:=
 ∀(pins:List (Addr×Obj)) (s:Shared) (σ:St) (H:Hp) (D:Ends),Inv X pins σ H s->t D σ H->wpAny (model X.prog X.w) X.A (exec st X.env) (SP X pins D) X.xe s
def PSs (X:Cx)(st:List Stmt)(t:TS):Prop:=
 ∀(pins:List (Addr×Obj)) (s:Shared) (σ:St) (H:Hp) (D:Ends),Inv X pins σ H s->t D σ H->wpAny (model X.prog X.w) X.A (execs st X.env) (SP X pins D) X.xe s
theorem bK {α:Type}{t:Sem α}{Q Q':α->Shared->Prop}{M:Model}{A:Around}{E:Value->Shared->Prop}{s:Shared}(h:wpAny M A t Q E s)(hQ:∀ a s,Q a s->Q' a s):wpAny M A t Q' E s:=wpAny_mono h hQ fun _ _ x=>x
section
variable {X:Cx}
def tVar (i:Nat):TE:=fun σ H Q=> ∃v,σ[i]? =some (some v)/\Q v H
def tC (v:V):TE:=fun _ H Q=>Q v H
theorem gy {i:Nat}{x:Str}{pos:Pos}(hN:X.N[i]? =some x)(hv:Vis X.env.scope x)(hd:(x == ("__debug__" : Str))=false:=by decide)(hcd:(x == ("__classdict__" : Str))=false:=by decide):PE X (.Name x pos) (tVar i):=by
 intro pins s σ H Q I h
 obtain⟨v,e,h⟩:=h
 obtain⟨m,hn,hl⟩:=I.loc
 obtain⟨u,r,l⟩:=hl i x v hN e hv
 have fin:EP X pins σ Q u s:=⟨v,H,I,r,h⟩
 rcases l with⟨hk,hm⟩ | ⟨hk,c,hc,hcell⟩
 ·exact wpAny_Name (wpAny_loadName_local I.ok.kind hk hn hm fin) hd
 ·rcases hk with hk | hk
  ·exact wpAny_Name (wpAny_loadName_cell I.ok.kind hk hc hcell fin) hd
  ·exact wpAny_Name (wpAny_loadName_free I.ok.kind hk hc hcell fin hcd) hd
theorem pe_int {i j pos}:PE X (.Constant (.int i) j pos) (tC (.int i)):=fun _ _ _ H _ I h=>wpAny_Constant_int ⟨.int i,H,I.tok _,⟨_,rfl⟩,h⟩
theorem pe_bl {b j pos}:PE X (.Constant (.bool b) j pos) (tC (.bl b)):=fun _ _ _ H _ I h=>Constant_bool ⟨.bl b,H,I,rfl,h⟩
theorem pe_non {j pos}:PE X (.Constant .none j pos) (tC .non):=fun _ _ _ H _ I h=>Constant_none ⟨.non,H,I,rfl,h⟩
theorem pe_str {x j pos}:PE X (.Constant (.str x) j pos) (tC (.str x)):=fun _ _ _ H _ I h=>Calls.Constant_str ⟨.str x,H,I.tok _,⟨_,rfl⟩,h⟩
def Gl (X:Cx)(x:Str):Prop:=X.env.kindOf x=some .globalImplicit
theorem ld_glob {E:Value->Shared->Prop}{pins:List (Addr×Obj)}{s:Shared}{σ:St}{H:Hp}{x:Str}{u:Value}{pos:Pos}{Q:Value->Shared->Prop}(I:Inv X pins σ H s)(hg:Gl X x)(hm:X.mg x=some u)(h:Q u s)
  (hd:(x == ("__debug__" : Str))=false:=by decide):wpAny (model X.prog X.w) X.A (eval (.Name x pos) X.env) Q E s:=
 Calls.Name_function_global I.ok.kind hg (Calls.loadGlobal_global (by rw [I.ok.glob];exact I.mod.glob.keeps I.bk) hm h) hd
theorem fN {E:Value->Shared->Prop}{pins:List (Addr×Obj)}{s:Shared}{σ:St}{H:Hp}{x:Str}{u:Value}{pos:Pos}{Q:Value->Shared->Prop}(I:Inv X pins σ H s)(hg:Gl X x)(hm:X.mg x=none)(hv:bootBuiltins x=some u)(h:Q u s)
  (hn:x≠ "__name__":=by decide) (hd:(x == ("__debug__" : Str))=false:=by decide):wpAny (model X.prog X.w) X.A (eval (.Name x pos) X.env) Q E s:=by
 obtain⟨mb,h1,h2⟩:=I.mod.blt
 exact Calls.Name_function_global I.ok.kind hg (Calls.loadGlobal_builtin (by rw [I.ok.glob];exact I.mod.glob.keeps I.bk) hm (by rw [I.ok.blt];exact h1.keeps I.bk) ((h2 x hn).trans hv) h) hd
theorem pe_glob {x:Str}{v:V}{u:Value}{pos:Pos}(hg:Gl X x)(hm:X.mg x=some u)(r:RelV v u)(hd:(x == ("__debug__" : Str))=false:=by decide):PE X (.Name x pos) (tC v):=
 fun _ _ _ H _ I h=>ld_glob I hg hm ⟨v,H,I,r,h⟩ hd
theorem pe_bltn {x:Str}{v:V}{u:Value}{pos:Pos}(hg:Gl X x)(hm:X.mg x=none)(hv:bootBuiltins x=some u)(r:RelV v u)(hn:x≠ "__name__":=by decide)(hd:(x == ("__debug__" : Str))=false:=by decide):PE X (.Name x pos) (tC v):=
 fun _ _ _ H _ I h=>fN I hg hm hv ⟨v,H,I,r,h⟩ hn hd
variable {a b:Expr}{ta tb:TE}{pos:Pos}
def tB (t:TE):TT:=fun σ H Q=>t σ H fun x H1=> ∃c,x= .bl c/\Q c H1
theorem pt_val {e:Expr}{t:TE}(h:PE X e t)(he:∀ whole,isTrue e X.env whole=(do let v <-whole;standAt e.pos;holding [v] (truthy v)):=by intro _;rfl):PT X e (tB t):=by
 intro pins s σ H Q I hw
 refine isTrue_plain (bK (h pins s σ H _ I hw) fun v s1 ⟨x,H1,I1,r1,q1⟩=> ?_) (he _)
 obtain⟨d,rfl,q⟩:=q1
 cases r1
 exact wpAny_truthy_bool ⟨H1,I1,q⟩
variable {tA tB':TT}{cq:List Expr}
def tAnd (t u:TT):TT:=fun σ H Q=>t σ H fun c H1=>if c=true then u σ H1 Q else Q false H1
def tOr (t u:TT):TT:=fun σ H Q=>t σ H fun c H1=>if c=true then Q true H1 else u σ H1 Q
def tNot (t:TT):TT:=fun σ H Q=>t σ H fun c H1=>Q (!c) H1
theorem pw_and1 (ha:PT X a tA):PW X (.BoolOp .And [a] pos) tA:=by
 intro wh pins s σ H Q I h
 refine isTrue_and (bK (ha pins s σ H Q I h) fun c s1 e=> ?_)
 cases c with
 | true=>exact isTrue_and_nil e
 | false=>exact e
theorem pw_or1 (ha:PT X a tA):PW X (.BoolOp .Or [a] pos) tA:=by
 intro wh pins s σ H Q I h
 refine isTrue_or (bK (ha pins s σ H Q I h) fun c s1 e=> ?_)
 cases c with
 | false=>exact isTrue_or_nil e
 | true=>exact e
theorem pw_and (ha:PT X a tA)(hb:PW X (.BoolOp .And (b::cq) pos) tB'):PW X (.BoolOp .And (a::b::cq) pos) (tAnd tA tB'):=by
 intro wh pins s σ H Q I h
 refine isTrue_and (bK (ha pins s σ H _ I h) fun c s1 hh_=> ?_)
 obtain⟨H1,I1,q1⟩:=hh_
 cases c with
 | true=>exact hb wh pins s1 σ H1 Q I1 q1
 | false=>exact⟨H1,I1,q1⟩
theorem pw_or (ha:PT X a tA)(hb:PW X (.BoolOp .Or (b::cq) pos) tB'):PW X (.BoolOp .Or (a::b::cq) pos) (tOr tA tB'):=by
 intro wh pins s σ H Q I h
 refine isTrue_or (bK (ha pins s σ H _ I h) fun c s1 hh_=> ?_)
 obtain⟨H1,I1,q1⟩:=hh_
 cases c with
 | true=>exact⟨H1,I1,q1⟩
 | false=>exact hb wh pins s1 σ H1 Q I1 q1
theorem pt_not (ha:PT X a tA):PT X (.UnaryOp .Not a pos) (tNot tA):=by
 intro pins s σ H Q I h
 exact isTrue_not (ha pins s σ H (fun c H1=>Q (!c) H1) I h)
def tAndV (ta tb:TE):TE:=fun σ H Q=>ta σ H fun x H1=> ∃c,x= .bl c/\if c=true then tb σ H1 Q else Q (.bl false) H1
def tOrV (ta tb:TE):TE:=fun σ H Q=>ta σ H fun x H1=> ∃c,x= .bl c/\if c=true then Q (.bl true) H1 else tb σ H1 Q
def tNotV (ta:TE):TE:=fun σ H Q=>ta σ H fun x H1=> ∃c,x= .bl c/\Q (.bl (!c)) H1
theorem pe_one {op}{t:TE}(h:PE X a t):PE X (.BoolOp op [a] pos) t:=fun pins s σ H Q I hw=>BoolOp_one (h pins s σ H Q I hw)
theorem pe_and (ha:PE X a ta)(hb:PE X (.BoolOp .And (b::cq) pos) tb):PE X (.BoolOp .And (a::b::cq) pos) (tAndV ta tb):=by
 intro pins s σ H Q I h
 refine BoolOp_and (bK (ha pins s σ H _ I h) fun v s1 hh_=> ?_)
 obtain⟨x,H1,I1,r1,q1⟩:=hh_
 obtain⟨c,rfl,q1⟩:=q1
 cases r1
 refine wpAny_truthy_bool ?_
 cases c with
 | true=>exact hb pins s1 σ H1 Q I1 q1
 | false=>exact⟨.bl false,H1,I1,rfl,q1⟩
theorem pe_or (ha:PE X a ta)(hb:PE X (.BoolOp .Or (b::cq) pos) tb):PE X (.BoolOp .Or (a::b::cq) pos) (tOrV ta tb):=by
 intro pins s σ H Q I h
 refine BoolOp_or (bK (ha pins s σ H _ I h) fun v s1 hh_=> ?_)
 obtain⟨x,H1,I1,r1,q1⟩:=hh_
 obtain⟨c,rfl,q1⟩:=q1
 cases r1
 refine wpAny_truthy_bool ?_
 cases c with
 | false=>exact hb pins s1 σ H1 Q I1 q1
 | true=>exact⟨.bl true,H1,I1,rfl,q1⟩
theorem pe_not (ha:PE X a ta):PE X (.UnaryOp .Not a pos) (tNotV ta):=by
 intro pins s σ H Q I h
 refine UnaryOp_ (bK (ha pins s σ H _ I h) fun v s1 hh_=> ?_)
 obtain⟨x,H1,I1,r1,q1⟩:=hh_
 obtain⟨c,rfl,q1⟩:=q1
 cases r1
 exact not_of (wpAny_truthy_bool ⟨.bl (!c),H1,I1,rfl,q1⟩)
def tIf (t:TT)(ta tb:TE):TE:=fun σ H Q=>t σ H fun c H1=>if c=true then ta σ H1 Q else tb σ H1 Q
theorem pe_ifExp {c:Expr}(hc:PT X c tA)(ha:PE X a ta)(hb:PE X b tb):PE X (.IfExp c a b pos) (tIf tA ta tb):=by
 intro pins s σ H Q I h
 refine wpAny_IfExp (bK (hc pins s σ H _ I h) fun d s1 hh_=> ?_)
 obtain⟨H1,I1,q1⟩:=hh_
 cases d with
 | true=>exact ha pins s1 σ H1 Q I1 q1
 | false=>exact hb pins s1 σ H1 Q I1 q1
end
def SqL (K:PySem.W.Frag)(H:Hp)(a:Addr)(xs:List V):Prop:=
 Rd H a (.lst xs) ∨
  ∃(o:Obj) (its:Array Value) (n:Nat),K.lookup a=some o/\o.cls= .type "list"/\o.dict=none/\o.data= .seq its n/\its.size<=sizeLine/\Vals xs its.toList
def SqT (K:PySem.W.Frag)(H:Hp)(a:Addr)(xs:List V):Prop:=
 Rd H a (.tup xs) ∨
  ∃(o:Obj) (its:Array Value) (n:Nat),K.lookup a=some o/\o.cls= .type "tuple"/\o.data= .seq its n/\its.size<=sizeLine/\Vals xs its.toList
def absV:Value->Option V
 | .none=>some .non
 | .bool b=>some (.bl b)
 | .int i _=>some (.int i)
 | .str x _=>some (.str x)
 | .bytes b _=>some (.byt b)
 | .float b _=>some (.flt b)
 | .ref a=>some (.ref a)
 | .type n=>some (.ty n)
 | _=>none
theorem RelV.abs {x:V}{u:Value}(r:RelV x u):absV u=some x:=by
 cases x with
 | non=>cases r;rfl
 | bl _=>cases r;rfl
 | int _=>obtain⟨t,rfl⟩:=r;rfl
 | str _=>obtain⟨t,rfl⟩:=r;rfl
 | byt _=>obtain⟨t,rfl⟩:=r;rfl
 | flt _=>obtain⟨t,rfl⟩:=r;rfl
 | ref _=>cases r;rfl
 | ty _=>cases r;rfl
theorem RelV.inj {x y:V}{u:Value}(r:RelV x u)(q:RelV y u):x=y:=Option.some.inj (r.abs.symm.trans q.abs)
theorem Vals.inj:∀ {xs ys:List V} {us:List Value},Vals xs us->Vals ys us->xs=ys
 | _,_,_,.nil,.nil=>rfl
 | _,_,_,.cons r t,.cons r' t'=>by rw [r.inj r',Vals.inj t t']
section
variable {X:Cx}{pins:List (Addr×Obj)}{σ:St}{H:Hp}{s:Shared}{a:Addr}{xs ys:List V}
theorem SqL.of {K:PySem.W.Frag}(h:H a=some (.lst xs)):SqL K H a xs:=.inl (.inl h)
theorem SqT.of {K:PySem.W.Frag}(h:H a=some (.tup xs)):SqT K H a xs:=.inl (.inl h)
theorem Inv.list (I:Inv X pins σ H s)(h:SqL X.K H a xs):∃ its:List Value,Vals xs its/\PlainL s.heap a its.toArray/\xs.length<=sizeLine:=by
 rcases h with h | ⟨o,its,n,hk,hc,hd,hs,hz,r⟩
 ·obtain⟨z,its,n,r,e⟩:=h.ok I.hok
  exact⟨its,r,⟨_,n,e,rfl,rfl,rfl⟩,z⟩
 ·refine⟨its.toList,r,⟨o,n,I.kIn a o hk,hc,hd,by simpa using hs⟩,?_⟩
  have e:=r.length
  simp only [Array.length_toList]at e
  omega
theorem Inv.tuple (I:Inv X pins σ H s)(h:SqT X.K H a xs):∃ its:List Value,Vals xs its/\IsTup s.heap a its.toArray/\xs.length<=sizeLine:=by
 rcases h with h | ⟨o,its,n,hk,hc,hs,hz,r⟩
 ·obtain⟨z,its,r,p⟩:=h.ok I.hok
  exact⟨its,r,p,z⟩
 ·refine⟨its.toList,r,⟨o,I.kIn a o hk,hc,n,by simpa using hs⟩,?_⟩
  have e:=r.length
  simp only [Array.length_toList]at e
  omega
theorem Inv.list_inj (I:Inv X pins σ H s)(h:SqL X.K H a xs)(h':SqL X.K H a ys):xs=ys:=by
 obtain⟨its,r,⟨o,n,e,_,_,d⟩,_⟩:=I.list h
 obtain⟨its',r',⟨o',n',e',_,_,d'⟩,_⟩:=I.list h'
 rw [e]at e';cases e'
 rw [d]at d'
 injection d' with d1 _
 have:its=its':=by simpa using congrArg Array.toList d1
 subst this
 exact r.inj r'
theorem Inv.tuple_inj (I:Inv X pins σ H s)(h:SqT X.K H a xs)(h':SqT X.K H a ys):xs=ys:=by
 obtain⟨its,r,⟨o,e,_,n,d⟩,_⟩:=I.tuple h
 obtain⟨its',r',⟨o',e',_,n',d'⟩,_⟩:=I.tuple h'
 rw [e]at e';cases e'
 rw [d]at d'
 injection d' with d1 _
 have:its=its':=by simpa using congrArg Array.toList d1
 subst this
 exact r.inj r'
end
abbrev Cx.wish (X:Cx)(E:Value->Shared->Prop):Cx:={ X with xe:=E }
abbrev Cx.nox (X:Cx):Cx:=X.wish fun _ _=>False
theorem Cx.Ok.wish {X:Cx}(ok:X.Ok)(E:Value->Shared->Prop):(X.wish E).Ok:=
 ⟨ok.mod,ok.kind,ok.glob,ok.blt,ok.above,ok.inj,ok.has,ok.cab,ok.hd,ok.frames,ok.stk,ok.exf,ok.bs,ok.bsz,ok.noex,ok.exfs,ok.funs,ok.frf⟩
theorem Cx.Ok.unwish {X:Cx}{E:Value->Shared->Prop}(ok:(X.wish E).Ok):X.Ok:=
 ⟨ok.mod,ok.kind,ok.glob,ok.blt,ok.above,ok.inj,ok.has,ok.cab,ok.hd,ok.frames,ok.stk,ok.exf,ok.bs,ok.bsz,ok.noex,ok.exfs,ok.funs,ok.frf⟩
section
variable {X:Cx}{pins:List (Addr×Obj)}{σ:St}{H:Hp}{s:Shared}{E:Value->Shared->Prop}
theorem Inv.wish (I:Inv X pins σ H s)(E:Value->Shared->Prop):Inv (X.wish E) pins σ H s:=⟨I.ok.wish E,I.os,I.bare,I.base,I.loc,I.cell,I.free,I.freeC,I.pin,I.hok,I.len⟩
theorem Inv.unwish (I:Inv (X.wish E) pins σ H s):Inv X pins σ H s:=⟨I.ok.unwish,I.os,I.bare,I.base,I.loc,I.cell,I.free,I.freeC,I.pin,I.hok,I.len⟩
theorem SP.unwish {D:Ends}{f:Flow}{s':Shared}(h:SP (X.wish E) pins D f s'):SP X pins D f s':=by
 cases f with
 | next=>obtain⟨σ',H',I,q⟩:=h;exact⟨σ',H',I.unwish,q⟩
 | brk=>obtain⟨σ',H',I,q⟩:=h;exact⟨σ',H',I.unwish,q⟩
 | cont=>obtain⟨σ',H',I,q⟩:=h;exact⟨σ',H',I.unwish,q⟩
 | ret u=>obtain⟨v,σ',H',I,r,q⟩:=h;exact⟨v,σ',H',I.unwish,r,q⟩
theorem PSs.nox {st:List Stmt}{t:TS}(h:PSs X.nox st t):PSs X st t:=fun pins s σ H D I hw=>
 wpAny_mono (h pins s σ H D (I.wish _) hw) (fun _ _ q=>q.unwish) fun _ _ z=>False.elim z
end
section
variable {X:Cx}{st:Stmt}{cq:List Stmt}{t u:TS}{e:Expr}{te:TE}{pos:Pos}
def tNext:TS:=fun D σ H=>D.nx σ H
def tSeq (t u:TS):TS:=fun D σ H=>t { D with nx:=u D } σ H
theorem pss_nil:PSs X [] tNext:=fun _ _ σ H _ I h=>wpAny_execs_nil ⟨σ,H,I,h⟩
theorem pss_cons (h1:PS X st t)(h2:PSs X cq u):PSs X (st::cq) (tSeq t u):=by
 intro pins s σ H D I h
 refine wpAny_execs_cons (bK (h1 pins s σ H { D with nx:=u D } I h) fun f s1 q=> ?_)
 cases f with
 | next=>
  obtain⟨σ',H',I',q⟩:=q
  exact h2 pins s1 σ' H' D I' q
 | ret v=>exact q
 | brk=>exact q
 | cont=>exact q
theorem fg (h1:PS X st t):PSs X [st] t:=by
 intro pins s σ H D I h
 refine wpAny_execs_cons (bK (h1 pins s σ H D I h) fun f s1 q=> ?_)
 cases f with
 | next=>exact wpAny_execs_nil q
 | ret v=>exact q
 | brk=>exact q
 | cont=>exact q
def tCont:TS:=fun D σ H=>D.ct σ H
theorem ps_continue:PS X (.Continue pos) tCont:=fun _ _ σ H _ I h=>wpAny_Continue ⟨σ,H,I,h⟩
theorem Inv.quiet {pins:List (Addr×Obj)}{σ:St}{H:Hp}{s:Shared}(I:Inv X pins σ H s):interactive X.env=false:=by simp [interactive,I.ok.kind]
def tDrop (te:TE):TS:=fun D σ H=>te σ H fun _ H1=>D.nx σ H1
theorem ps_expr (he:PE X e te)(hs:swapsWith e none pos.line X.env=pure false:=by rfl):PS X (.Expr e pos) (tDrop te):=by
 intro pins s σ H D I h
 exact wpAny_Expr_any (bK (he pins s σ H _ I h) fun v s1 ⟨x,H1,I1,r1,q1⟩=>⟨σ,H1,I1,q1⟩) I.quiet hs
def tRet (te:TE):TS:=fun D σ H=>te σ H D.rt
theorem ps_ret (he:PE X e te):PS X (.Return (some e) pos) (tRet te):=by
 intro pins s σ H D I h
 exact wpAny_Return_some (bK (he pins s σ H _ I h) fun v s1 ⟨x,H1,I1,r1,q1⟩=>⟨x,σ,H1,I1,r1,q1⟩)
def tIfS (c:TT)(t u:TS):TS:=fun D σ H=>c σ H fun b H1=>if b=true then t D σ H1 else u D σ H1
theorem ps_if {c:Expr}{a b:List Stmt}{tc:TT}(hc:PT X c tc)(ha:PSs X a t)(hb:PSs X b u):PS X (.If c a b pos) (tIfS tc t u):=by
 intro pins s σ H D I h
 refine wpAny_If (bK (hc pins s σ H _ I h) fun d s1 hh_=> ?_)
 obtain⟨H1,I1,q1⟩:=hh_
 cases d with
 | true=>exact ha pins s1 σ H1 D I1 q1
 | false=>exact hb pins s1 σ H1 D I1 q1
def tNever:TS:=fun _ _ _=>False
theorem ps_never:PS X st tNever:=fun _ _ _ _ _ _ h=>h.elim
end
abbrev TG:=V->St->Hp->(St->Hp->Prop)->Prop
abbrev TGs:=List V->St->Hp->(St->Hp->Prop)->Prop
def PG (X:Cx)(target:Expr)(t:TG):Prop:=
 ∀(pins:List (Addr×Obj)) (s:Shared) (σ:St) (H:Hp) (v:V) (u:Value) (Q:St->Hp->Prop),Inv X pins σ H s->RelV v u->t v σ H Q →
  wpAny (model X.prog X.w) X.A (assign target X.env u) (fun _ s'=> ∃σ' H',Inv X pins σ' H' s'/\Q σ' H') X.xe s
def PGs (X:Cx)(ts:List Expr)(t:TGs):Prop:=
 ∀(pins:List (Addr×Obj)) (s:Shared) (σ:St) (H:Hp) (vs:List V) (us:List Value) (Q:St->Hp->Prop),Inv X pins σ H s->Vals vs us->t vs σ H Q →
  wpAny (model X.prog X.w) X.A (assignInOrder ((assignEach ts X.env).map (·.2)) us) (fun _ s'=> ∃σ' H',Inv X pins σ' H' s'/\Q σ' H') X.xe s
section
variable {X:Cx}{pos:Pos}
def gName (i:Nat):TG:=fun v σ H Q=>Q (σ.set i (some v)) H
theorem pg_name {i:Nat}{x:Str}(hN:X.N.Nodup)(hi:X.N[i]? =some x)(hx:Loc X.env.scope x)(hf:X.fn x=true\/X.env.scope.names.lookup x=some .local:=by first | exact .inl rfl | exact .inr rfl | assumption):PG X (.Name x pos) (gName i):=by
 intro pins s σ H v u Q I r h
 exact wpAny_assign_Name (store_ok I hN hi hx r (fun s' I'=>⟨_,H,I',h⟩) hf)
def gNil:TGs:=fun vs σ H Q=>vs= []/\Q σ H
def gCons (t:TG)(u:TGs):TGs:=fun vs σ H Q=> ∃v r,vs=v::r/\t v σ H fun σ' H'=>u r σ' H' Q
theorem pgs_nil:PGs X [] gNil:=by
 intro pins s σ H vs us Q I r h
 obtain⟨e,h⟩:=h
 subst e
 cases r
 exact assignInOrder_nil ⟨σ,H,I,h⟩
theorem pgs_cons {e:Expr}{es:List Expr}{t:TG}{u:TGs}(h1:PG X e t)(h2:PGs X es u)
  (hs:(assignEach (e::es) X.env).map (·.2)=assign e X.env::(assignEach es X.env).map (·.2):=by rfl):PGs X (e::es) (gCons t u):=by
 intro pins s σ H vs us Q I r h
 obtain⟨v,vr,e1,h⟩:=h
 subst e1
 cases r with
 | cons r rr=>
  rw [hs]
  refine assignInOrder_cons (bK (h1 pins s σ H _ _ _ I r h) fun _ s1 hh_=> ?_)
  obtain⟨σ1,H1,I1,q1⟩:=hh_
  exact h2 pins s1 σ1 H1 _ _ Q I1 rr q1
def gTup (K:PySem.W.Frag)(n:Nat)(t:TGs):TG:=fun v σ H Q=> ∃a xs,v= .ref a/\SqT K H a xs/\xs.length=n/\t xs σ H Q
theorem pg_tup {es:List Expr}{k:Nat}{t:TGs}{n:Nat}(hc:X.calm=true)(h:PGs X es t)
  (hn:(assignEach es X.env).length=n:=by rfl) (hst:(assignEach es X.env).findIdx? (·.1)=none:=by rfl):PG X (.Tuple es k pos) (gTup X.K n t):=by
 intro pins s σ H v u Q I r hw
 obtain⟨a,xs,e1,hq,hl,hw⟩:=hw
 subst e1
 cases r
 obtain⟨its,rv,ht,hz⟩:=I.tuple hq
 refine assign_Tuple_tuple (I.ok.hd hc) ht (by simp [hn,<-hl,rv.length]) hst fun h' hx=> ?_
 have I1:Inv X pins σ H { s with heap:=h' }:=I.kept (t':=s.toks) fun b o e=>hx b o (Nat.ne_of_lt (Heap.lt_size e)) e
 exact h pins _ σ H xs _ Q I1 (by simpa using rv) hw
def tAsg (te:TE)(g:TG):TS:=fun D σ H=>te σ H fun x H1=>g x σ H1 D.nx
theorem ps_asg {tg e:Expr}{te:TE}{g:TG}(he:PE X e te)(hg:PG X tg g)(hs:swapsWithSole [tg] e pos.line X.env=pure false:=by rfl)(hw:swappedStores [tg] e X.env=pure none:=by rfl)
  (h1:(assignEach [tg] X.env).map (·.2)= [assign tg X.env]:=by rfl):PS X (.Assign [tg] e pos) (tAsg te g):=by
 intro pins s σ H D I h
 refine wpAny_Assign_stores (bK (he pins s σ H _ I h) fun v s1 ⟨x,H1,I1,r1,q1⟩=> ?_) hs hw
 rw [h1]
 exact bK (hg pins s1 σ H1 x v _ I1 r1 q1) fun _ s2 q=>q
theorem ps_set {i:Nat}{x:Str}{e:Expr}{te:TE}{pos':Pos}(hN:X.N.Nodup)(hi:X.N[i]? =some x)(hx:Loc X.env.scope x)(he:PE X e te)(hs:swapsWith e (some (.Name x pos')) pos.line X.env=pure false:=by rfl)(hf:X.fn x=true\/X.env.scope.names.lookup x=some .local:=by first | exact .inl rfl | exact .inr rfl | assumption) :
  PS X (.Assign [.Name x pos'] e pos) (tAsg te (gName i)):=by
 intro pins s σ H D I h
 refine wpAny_Assign_Name (bK (he pins s σ H _ I h) fun v s1 ⟨y,H1,I1,r1,q1⟩=> ?_) hs
 exact store_ok I1 hN hi hx r1 (fun s2 I2=>⟨_,H1,I2,q1⟩) hf
end
section
variable {X:Cx}{pos:Pos}
def tWhile (c:TT)(tb:TS):TS:=fun D σ H=> ∃W:Nat->St->Hp->Prop,(∃m,W m σ H)/\∀ m σ H,W m σ H →
 c σ H fun b H1=>if b=true then ∃N:St->Hp->Prop,(∀σ' H',N σ' H'->∃ m',m'<m/\W m' σ' H')/\tb { D with nx:=N,ct:=N,bk:=D.nx } σ H1 else D.nx σ H1
theorem ps_while {c:Expr}{body:List Stmt}{tc:TT}{tb:TS}(hp:PassesOwn (model X.prog X.w) X.A X.env X.xe)(hc:PT X c tc)(hb:PSs X body tb):PS X (.While c body [] pos) (tWhile tc tb):=by
 intro pins s σ H D I h
 obtain⟨W,⟨m0,w0⟩,turn⟩:=h
 refine wpAny_While (codeAny_whileLoop (fun n s'=> ∃σ' H',Inv X pins σ' H' s'/\W n σ' H') ?_ m0 ⟨σ,H,I,w0⟩)
 rintro n s1 ⟨σ1,H1,I1,w1⟩
 refine wpAny_passesOwn hp (bK (hc pins s1 σ1 H1 _ I1 (turn n σ1 H1 w1)) fun b s2 hh_=> ?_)
 obtain⟨H2,I2,q2⟩:=hh_
 cases b with
 | true=>
  obtain⟨N,hN,q2⟩:=q2
  rw [if_pos rfl]
  refine wpAny_passesOwn hp (bK (hb pins s2 σ1 H2 _ I2 q2) fun f s3 q3=> ?_)
  cases f with
  | next=>
   obtain⟨σ3,H3,I3,n3⟩:=q3
   obtain⟨m',hm,w3⟩:=hN σ3 H3 n3
   exact⟨m',hm,σ3,H3,I3,w3⟩
  | cont=>
   obtain⟨σ3,H3,I3,n3⟩:=q3
   obtain⟨m',hm,w3⟩:=hN σ3 H3 n3
   exact⟨m',hm,σ3,H3,I3,w3⟩
  | brk=>exact q3
  | ret v=>exact q3
 | false=>
  rw [if_neg Bool.false_ne_true]
  exact wpAny_execs_nil ⟨σ1,H2,I2,q2⟩
end
structure It where
 go:Nat->Hp->Prop
 yld:Nat->Hp->V->Hp->Prop
 stop:Nat->Hp->Prop
def FpOk (X:Cx)(pins:List (Addr×Obj))(H:Hp)(b:Addr):Prop:=
 H b=none/\b≠X.env.locals/\b∉X.fs/\(b∈X.ex\/X.s₀.heap.objs.size<=b)/\(∀x c,X.env.cells.lookup x=some c->c≠b)/\∀ p∈X.pn++pins,p.1≠b
theorem Inv.fpOk {X:Cx}{pins:List (Addr×Obj)}{σ:St}{H H':Hp}{s:Shared}{b:Addr}(I:Inv X pins σ H s)(hb:s.heap.objs.size<=b)(hn:H' b=none):FpOk X pins H' b:=by
 refine⟨hn,Nat.ne_of_gt (Nat.lt_of_lt_of_le I.lt hb),I.nofs hb,.inr (Nat.le_trans I.sz hb),fun x c e z=> ?_,fun p hp z=> ?_⟩
 ·obtain⟨v,q⟩:=I.cell x c e
  exact absurd (Nat.lt_of_lt_of_le q.lt (by rw [z];exact hb)) (Nat.lt_irrefl _)
 ·exact absurd (Nat.lt_of_lt_of_le (Heap.lt_size (I.pin p hp).1) (by rw [z];exact hb)) (Nat.lt_irrefl _)
structure Turn (P:Program)(w:World)(K:PySem.W.Frag)(tg:Expr)(J:It)(fp:List Addr)(it:Addr)(tn:Nat->Heap->Prop):Prop where
 mem:it∈fp
 obj:∀ i h,tn i h->∀ b∈fp,∃o,h.get? b=some o/\∀ v,o.data≠ .cell v
 keep:∀ i h h',tn i h->(∀b∈fp,∀o,h.get? b=some o->h'.get? b=some o)->tn i h'
 item:∀ (X:Cx),X.prog=P->X.w=w->X.K=K->X.calm=true->∀ (i:Nat) (pins:List (Addr×Obj)) (s:Shared) (σ:St) (H:Hp) (E:Value->Shared->Prop),Inv X pins σ H s->(∀b∈fp,FpOk X pins H b)->tn i s.heap->J.go i H →
  wpAny (model P w) X.A (pyNext (.ref it)) (fun r s1=> ∃u,r=some u ∧
   wpAny (model P w) X.A (letOwnedTupleGo tg (.ref it) u) (fun _ s2=> ∃x H',Inv X pins σ H' s2/\RelV x u/\J.yld i H x H'/\tn (i+1) s2.heap/\∀ b∈fp,H' b=none) E s1) E s
 done:∀ (X:Cx),X.prog=P->X.w=w->X.K=K->X.calm=true->∀ (i:Nat) (pins:List (Addr×Obj)) (s:Shared) (σ:St) (H:Hp) (E:Value->Shared->Prop),Inv X pins σ H s->(∀b∈fp,FpOk X pins H b)->tn i s.heap->J.stop i H →
  wpAny (model P w) X.A (pyNext (.ref it)) (fun r s1=>r=none/\Inv X pins σ H s1) E s
 self:∀ (A:Around) (i:Nat) (s:Shared) (Q:Value->Shared->Prop) (E:Value->Shared->Prop),tn i s.heap->Q (.ref it) s->wpAny (model P w) A (pyIter (.ref it)) Q E s
abbrev TI:=St->Hp->(It->Hp->Prop)->Prop
def PIE (X:Cx)(pins:List (Addr×Obj))(σ:St)(tg:Expr)(R:It->Hp->Prop)(itv:Value)(s2:Shared):Prop:=
 ∃(it:Addr) (fp:List Addr) (tn:Nat->Heap->Prop) (J:It) (H':Hp),itv= .ref it/\Inv X pins σ H' s2/\Turn X.prog X.w X.K tg J fp it tn/\tn 0 s2.heap/\(∀b∈fp,FpOk X pins H' b)/\R J H'
def PI (X:Cx)(tg iter:Expr)(wi:TI):Prop:=
 ∀(pins:List (Addr×Obj)) (s:Shared) (σ:St) (H:Hp) (R:It->Hp->Prop),Inv X pins σ H s->wi σ H R →
  wpAny (model X.prog X.w) X.A (eval iter X.env) (fun v s1=>wpAny (model X.prog X.w) X.A (pyIter v) (PIE X pins σ tg R) X.xe s1) X.xe s
theorem go_of {M:Model}{A:Around}{E:Value->Shared->Prop}{s:Shared}{tg:Expr}{it:Addr}{u:Value}{o:Obj}{n:String}{vs:Array Value}{Q:Unit->Shared->Prop}(ho:s.heap.get? it=some o)(hc:o.cls= .type n)(hd:o.data= .fields vs)
  (hn:["enumerate","zip","dict_itemiterator","dict_reverseitemiterator","odict_iterator","itertools.zip_longest","itertools.pairwise"].contains n=false) (hQ:Q () s):wpAny M A (letOwnedTupleGo tg (.ref it) u) Q E s:=by
 unfold letOwnedTupleGo
 cases tg <;> first
  | exact wpAny_pure hQ
  | (cases u <;> first
    | exact wpAny_pure hQ
    | (refine wpAny_bind (wpAny_load ho ?_)
       rw [hc,hd]
       show wpAny M A (if (["enumerate","zip","dict_itemiterator","dict_reverseitemiterator","odict_iterator","itertools.zip_longest","itertools.pairwise"].contains n&&vs[0]? == some (rawInt _))=true then _ else _) Q E s
       rw [if_neg (by intro h;rw [hn,Bool.false_and]at h;cases h)]
       exact wpAny_pure hQ))
def Itl (K:PySem.W.Frag)(a:Addr):It:=
 ⟨fun i H=> ∃xs x,SqL K H a xs/\xs[i]? =some x,fun i H x H'=>H'=H/\∀ xs,SqL K H a xs->xs[i]? =some x,fun i H=> ∃xs,SqL K H a xs/\xs.length<=i⟩
def Itt (K:PySem.W.Frag)(a:Addr):It:=
 ⟨fun i H=> ∃xs x,SqT K H a xs/\xs[i]? =some x,fun i H x H'=>H'=H/\∀ xs,SqT K H a xs->xs[i]? =some x,fun i H=> ∃xs,SqT K H a xs/\xs.length<=i⟩
def Itr (lo:Int)(n:Nat):It:=⟨fun i _=>i<n,fun i H x H'=>H'=H/\x= .int (lo+i),fun i _=>n<=i⟩
theorem turn_list {P:Program}{w:World}{K:PySem.W.Frag}{tg:Expr}(a it:Addr):Turn P w K tg (Itl K a) [it] it (fun i h=>h.IsListIter it a i) where
 mem:=by simp
 obj:=fun i h st b hb=>by
  have e:b=it:=by simpa using hb
  subst e
  obtain⟨o,e,c,d⟩:=st
  exact⟨o,e,fun v z=>by rw [d]at z;cases z⟩
 keep:=fun i h h' st k=>st.at fun o e=>k it (by simp) o e
 item:=by
  intro X hP hw hK hc i pins s σ H E I hf st hg
  subst hP hw hK
  obtain⟨xs,x,hq,hx⟩:=hg
  obtain⟨its,rv,p,hz⟩:=I.list hq
  obtain⟨u,hu,ru⟩:=rv.get hx
  obtain⟨f0,f1,f2,f3,f4,f5⟩:=hf it (by simp)
  refine wpAny_pyNext_list_item st p.isList (x:=u) (by simpa using hu) fun h' st' sb=> ?_
  have I1:Inv X pins σ H { s with heap:=h' }:=I.turned (t':=s.toks) (fun b o hb e=>(sb.2 b hb).trans e) f0 f1 f3 f4 f5
  obtain⟨o,e,c,d⟩:=id st'
  exact⟨u,rfl,go_of (s:={ s with heap:=h' }) e c d (by decide) ⟨x,H,I1,ru,⟨rfl,fun ys hy=>by rw [I.list_inj hy hq];exact hx⟩,st',fun b hb=>(hf b hb).1⟩⟩
 done:=by
  intro X hP hw hK hc i pins s σ H E I hf st hg
  subst hP hw hK
  obtain⟨xs,hq,hx⟩:=hg
  obtain⟨its,rv,p,hz⟩:=I.list hq
  obtain⟨f0,f1,f2,f3,f4,f5⟩:=hf it (by simp)
  have hl:=rv.length
  exact wpAny_pyNext_list_end (I.ok.hd hc) st p.isList (by simp;omega) fun h' eb=>⟨rfl,I.turned (t':=s.toks) (fun b o hb e=>eb b o hb e) f0 f1 f3 f4 f5⟩
 self:=fun _ _ _ _ _ st h=>wpAny_pyIter_listiter st h
theorem turn_tuple {P:Program}{w:World}{K:PySem.W.Frag}{tg:Expr}(a it:Addr):Turn P w K tg (Itt K a) [it] it (fun i h=>h.IsTupleIter it a i) where
 mem:=by simp
 obj:=fun i h st b hb=>by
  have e:b=it:=by simpa using hb
  subst e
  obtain⟨o,e,c,d⟩:=st
  exact⟨o,e,fun v z=>by rw [d]at z;cases z⟩
 keep:=fun i h h' st k=>st.at fun o e=>k it (by simp) o e
 item:=by
  intro X hP hw hK hc i pins s σ H E I hf st hg
  subst hP hw hK
  obtain⟨xs,x,hq,hx⟩:=hg
  obtain⟨its,rv,p,hz⟩:=I.tuple hq
  obtain⟨u,hu,ru⟩:=rv.get hx
  obtain⟨f0,f1,f2,f3,f4,f5⟩:=hf it (by simp)
  refine wpAny_pyNext_tuple_item st (show s.heap.IsTuple a its.toArray from p) (x:=u) (by simpa using hu) fun h' st' sb=> ?_
  have I1:Inv X pins σ H { s with heap:=h' }:=I.turned (t':=s.toks) (fun b o hb e=>(sb.2 b hb).trans e) f0 f1 f3 f4 f5
  obtain⟨o,e,c,d⟩:=id st'
  exact⟨u,rfl,go_of (s:={ s with heap:=h' }) e c d (by decide) ⟨x,H,I1,ru,⟨rfl,fun ys hy=>by rw [I.tuple_inj hy hq];exact hx⟩,st',fun b hb=>(hf b hb).1⟩⟩
 done:=by
  intro X hP hw hK hc i pins s σ H E I hf st hg
  subst hP hw hK
  obtain⟨xs,hq,hx⟩:=hg
  obtain⟨its,rv,p,hz⟩:=I.tuple hq
  obtain⟨f0,f1,f2,f3,f4,f5⟩:=hf it (by simp)
  have hl:=rv.length
  exact wpAny_pyNext_tuple_end (I.ok.hd hc) st (show s.heap.IsTuple a its.toArray from p) (by simp;omega) fun h' eb=>⟨rfl,I.turned (t':=s.toks) (fun b o hb e=>eb b o hb e) f0 f1 f3 f4 f5⟩
 self:=fun _ _ _ _ _ st h=>wpAny_pyIter_tupleiter st h
theorem turn_range {P:Program}{w:World}{K:PySem.W.Frag}{tg:Expr}(it:Addr)(lo:Int)(n:Nat):Turn P w K tg (Itr lo n) [it] it (fun i h=>IsRangeIter h it (lo+(i:Nat)*1) ((n:Int) - (i:Nat)) 1) where
 mem:=by simp
 obj:=fun i h st b hb=>by
  have e:b=it:=by simpa using hb
  subst e
  exact⟨_,st,fun v z=>by
   have z':Data.fields _=Data.cell v:=z
   cases z'⟩
 keep:=fun i h h' st k=>k it (by simp) _ st
 item:=by
  intro X hP hw hK hc i pins s σ H E I hf st hg
  subst hP hw hK
  obtain⟨f0,f1,f2,f3,f4,f5⟩:=hf it (by simp)
  have W:=Walks.range (prog:=X.prog) (w:=X.w) (I.ok.hd hc) it lo 1 n
  refine W.item i s _ _ hg st fun v h' tk hv st' kk=> ?_
  obtain⟨t,rfl⟩:=hv
  have I1:Inv X pins σ H { s with heap:=h',toks:=tk }:=I.turned (fun b o hb e=>kk b o (by simpa using hb) e) f0 f1 f3 f4 f5
  refine⟨_,rfl,go_of (s:={ s with heap:=h',toks:=tk }) (n:="range_iterator") st' rfl rfl (by decide) ⟨.int (lo+i),H,I1,⟨t,?_⟩,⟨rfl,rfl⟩,st',fun b hb=>(hf b hb).1⟩⟩
  rw [Int.mul_one]
 done:=by
  intro X hP hw hK hc i pins s σ H E I hf st hg
  subst hP hw hK
  obtain⟨f0,f1,f2,f3,f4,f5⟩:=hf it (by simp)
  exact wpAny_pyNext_range_end (I.ok.hd hc) st (by have:n<=i:=hg;omega) fun h' eb=>⟨rfl,I.turned (t':=s.toks) (fun b o hb e=>eb b o hb e) f0 f1 f3 f4 f5⟩
 self:=fun _ _ _ _ _ st h=>wpAny_pyIter_rangeiter st h
section
variable {X:Cx}{tg:Expr}
def iList (K:PySem.W.Frag)(tl:TE):TI:=fun σ H R=>tl σ H fun x H1=> ∃a,x= .ref a/\(∃xs,SqL K H1 a xs)/\R (Itl K a) H1
def iTup (K:PySem.W.Frag)(tl:TE):TI:=fun σ H R=>tl σ H fun x H1=> ∃a,x= .ref a/\(∃xs,SqT K H1 a xs)/\R (Itt K a) H1
theorem pi_list {l:Expr}{tl:TE}(hl:PE X l tl):PI X tg l (iList X.K tl):=by
 intro pins s σ H R I h
 refine bK (hl pins s σ H _ I h) fun v s1 hh_=> ?_
 obtain⟨x,H1,I1,r1,q1⟩:=hh_
 obtain⟨a,e,⟨xs,hq⟩,q⟩:=q1
 subst e
 cases r1
 obtain⟨its,rv,p,hz⟩:=I1.list hq
 refine wpAny_pyIter_list p.isList ?_
 refine⟨s1.heap.objs.size,[s1.heap.objs.size],_,_,H1,rfl,I1.kept (t':=s1.toks) fun b o e=>Heap.get?_push_of_some _ e,turn_list a _,⟨_,Heap.get?_push_size _ rfl,rfl,rfl⟩,fun b hb=> ?_,q⟩
 have e:b=s1.heap.objs.size:=by simpa using hb
 subst e
 exact I1.fpOk (Nat.le_refl _) (I1.hok.fresh (Nat.le_refl _))
theorem pi_tup {l:Expr}{tl:TE}(hl:PE X l tl):PI X tg l (iTup X.K tl):=by
 intro pins s σ H R I h
 refine bK (hl pins s σ H _ I h) fun v s1 hh_=> ?_
 obtain⟨x,H1,I1,r1,q1⟩:=hh_
 obtain⟨a,e,⟨xs,hq⟩,q⟩:=q1
 subst e
 cases r1
 obtain⟨its,rv,p,hz⟩:=I1.tuple hq
 refine wpAny_pyIter_tuple (show s1.heap.IsTuple a its.toArray from p) ?_
 refine⟨s1.heap.objs.size,[s1.heap.objs.size],_,_,H1,rfl,I1.kept (t':=s1.toks) fun b o e=>Heap.get?_push_of_some _ e,turn_tuple a _,⟨_,Heap.get?_push_size _ rfl,rfl,rfl⟩,fun b hb=> ?_,q⟩
 have e:b=s1.heap.objs.size:=by simpa using hb
 subst e
 exact I1.fpOk (Nat.le_refl _) (I1.hok.fresh (Nat.le_refl _))
theorem range_it {pins:List (Addr×Obj)}{σ:St}{H:Hp}{s:Shared}{R:It->Hp->Prop}{E:Value->Shared->Prop}{lo hi:Int}{t u v:Tok}{tk:Nat}(I:Inv X pins σ H s)(h1 : -(2 ^ 62)<=lo)(h2:lo<2 ^ 62)(h3 : -(2 ^ 62)<=hi)(h4:hi<2 ^ 62)
  (q:R (Itr lo (hi - lo).toNat) H):wpAny (model X.prog X.w) X.A (pyIter (.ref s.heap.objs.size)) (PIE X pins σ tg R) E { s with heap:=s.heap.push { cls:=.type "range",data:=.fields #[.int lo t,.int hi u,.int 1 v] },toks:=tk }:=by
 refine wpAny_pyIter_range (IsRange.new ..) (small_one h1 h2 h3 h4) ?_
 have I1:Inv X pins σ H { s with heap:=s.heap.push { cls:=.type "range",data:=.fields #[.int lo t,.int hi u,.int 1 v] },toks:=tk }:=I.kept fun b o e=>Heap.get?_push_of_some _ e
 refine⟨(s.heap.push { cls:=.type "range",data:=.fields #[.int lo t,.int hi u,.int 1 v] }).objs.size,[(s.heap.push { cls:=.type "range",data:=.fields #[.int lo t,.int hi u,.int 1 v] }).objs.size],_,_,H,rfl,
  I1.kept (t':=tk) fun b o e=>Heap.get?_push_of_some _ e,turn_range _ lo (hi - lo).toNat,?_,fun b hb=> ?_,q⟩
 ·have e1:lo+((0:Nat):Int)*1=lo:=by simp
  have e2:(((hi - lo).toNat:Nat):Int) - ((0:Nat):Int)=Builtin.Range.rangeSize lo hi 1:=by rw [rangeSize_one];split <;> omega
  show IsRangeIter _ _ (lo+((0:Nat):Int)*1) ((((hi - lo).toNat:Nat):Int) - ((0:Nat):Int)) 1
  rw [e1,e2]
  exact Heap.get?_push_size _ rfl
 ·have e:b=(s.heap.push { cls:=.type "range",data:=.fields #[.int lo t,.int hi u,.int 1 v] }).objs.size:=by simpa using hb
  subst e
  exact I1.fpOk (Nat.le_refl _) (I1.hok.fresh (Nat.le_refl _))
def tFor (wi:TI)(g:TG)(tb:TS):TS:=fun D σ H=>wi σ H fun J H1=> ∃W:Nat->Nat->St->Hp->Prop,(∃m,W 0 m σ H1)/\∀ i m σ H,W i m σ H →
 (J.stop i H/\D.nx σ H)\/(J.go i H/\∃ N:St->Hp->Prop,(∀σ' H',N σ' H'->∃ m',m'<m/\W (i+1) m' σ' H')/\∀ x H',J.yld i H x H'->g x σ H' fun σ2 H2=>tb { D with nx:=N,ct:=N,bk:=D.nx } σ2 H2)
def pinsAt (fp:List Addr)(h:Heap):List (Addr×Obj):=fp.filterMap fun b=>(h.get? b).map fun o=>(b,o)
theorem gB {fp:List Addr}{h:Heap}{b:Addr}{o:Obj}(hb:b∈fp)(e:h.get? b=some o):(b,o)∈pinsAt fp h:=List.mem_filterMap.mpr ⟨b,hb,by rw [e];rfl⟩
theorem of_pinsAt {fp:List Addr}{h:Heap}{p:Addr×Obj}(hp:p∈pinsAt fp h):p.1∈fp/\h.get? p.1=some p.2:=by
 obtain⟨b,hb,e⟩:=List.mem_filterMap.mp hp
 cases q:h.get? b with
 | none=>rw [q]at e;cases e
 | some o=>
  rw [q]at e
  have e':(b,o)=p:=Option.some.inj e
  subst e'
  exact⟨hb,q⟩
theorem Inv.pinned {pins:List (Addr×Obj)}{σ:St}{H:Hp}{s:Shared}{fp:List Addr}(I:Inv X pins σ H s)(hf:∀ b∈fp,FpOk X pins H b)(ho:∀ b∈fp,∃o,s.heap.get? b=some o/\∀ v,o.data≠ .cell v):Inv X (pins++pinsAt fp s.heap) σ H s:=
 I.pins_of fun p hp=>(List.mem_append.mp hp).elim (fun z=>I.pin p (List.mem_append_right _ z)) fun z=>by
  obtain⟨hb,e⟩:=of_pinsAt z
  obtain⟨f0,f1,f2,_⟩:=hf p.1 hb
  obtain⟨o,e',d⟩:=ho p.1 hb
  rw [e]at e';cases e'
  exact⟨e,f0,f1,f2,d⟩
theorem Inv.unpinned {pins pl:List (Addr×Obj)}{σ:St}{H:Hp}{s:Shared}(I:Inv X (pins++pl) σ H s):Inv X pins σ H s:=I.pins_of fun p hp=>I.pin p (List.mem_append_right _ (List.mem_append_left _ hp))
end
abbrev R2:=V->V->Hp->VK->Prop
def OpR (X:Cx)(f:Value->Value->Sem Value)(r:R2):Prop:=
 ∀(pins:List (Addr×Obj)) (s:Shared) (σ:St) (H:Hp) (x y:V) (v u:Value) (Q:VK),Inv X pins σ H s->RelV x v->RelV y u->r x y H Q →
  wpAny (model X.prog X.w) X.A (f v u) (EP X pins σ Q) X.xe s
def UnR (X:Cx)(f:Value->Sem Value)(r:V->Hp->VK->Prop):Prop:=
 ∀(pins:List (Addr×Obj)) (s:Shared) (σ:St) (H:Hp) (x:V) (v:Value) (Q:VK),Inv X pins σ H s->RelV x v->r x H Q →
  wpAny (model X.prog X.w) X.A (f v) (EP X pins σ Q) X.xe s
def CallR (X:Cx)(f:Value)(r:List V->Hp->VK->Prop):Prop:=
 ∀(pins:List (Addr×Obj)) (s:Shared) (σ:St) (H:Hp) (xs:List V) (us:List Value) (Q:VK),Inv X pins σ H s->Vals xs us->r xs H Q →
  wpAny (model X.prog X.w) X.A (call f us) (EP X pins σ Q) X.xe s
def tOp (r:R2)(ta tb:TE):TE:=fun σ H Q=>ta σ H fun x H1=>tb σ H1 fun y H2=>r x y H2 Q
def tUn (r:V->Hp->VK->Prop)(ta:TE):TE:=fun σ H Q=>ta σ H fun x H1=>r x H1 Q
def rI (C:Int->Int->Prop)(g:Int->Int->V):R2:=fun x y H Q=> ∃i j,x= .int i/\y= .int j/\C i j/\Q (g i j) H
def rI0 (g:Int->Int->V):R2:=fun x y H Q=> ∃i j,x= .int i/\y= .int j/\Q (g i j) H
def rU (g:Int->V):V->Hp->VK->Prop:=fun x H Q=> ∃i,x= .int i/\Q (g i) H
section
variable {X:Cx}{a b c:Expr}{ta tb tc:TE}{pos:Pos}
theorem binT (ha:PE X a ta)(hb:PE X b tb){pins:List (Addr×Obj)}{s:Shared}{σ:St}{H:Hp}{R:V->V->Hp->Prop}(I:Inv X pins σ H s)
  (h:ta σ H fun x H1=>tb σ H1 fun y H2=>R x y H2) {Q:Value->Shared->Prop} {f:Value->Value->Sem Value}
  (hf:∀ v u s2 x y H2,Inv X pins σ H2 s2->RelV x v->RelV y u->R x y H2->wpAny (model X.prog X.w) X.A (f v u) Q X.xe s2) :
  wpAny (model X.prog X.w) X.A (eval a X.env) (fun v s₁=>wpAny (model X.prog X.w) X.A (eval b X.env) (fun u s₂=>wpAny (model X.prog X.w) X.A (f v u) Q X.xe s₂) X.xe s₁) X.xe s:=by
 refine bK (ha pins s σ H _ I h) fun v s1 hh_=> ?_
 obtain⟨x,H1,I1,r1,q1⟩:=hh_
 refine bK (hb pins s1 σ H1 _ I1 q1) fun u s2 hh_=> ?_
 obtain⟨y,H2,I2,r2,q2⟩:=hh_
 exact hf v u s2 x y H2 I2 r1 r2 q2
theorem pe_op {op:Operator}{r:R2}(ho:OpR X (binaryOp op) r)(ha:PE X a ta)(hb:PE X b tb):PE X (.BinOp a op b pos) (tOp r ta tb):=by
 intro pins s σ H Q I h
 exact wpAny_BinOp (binT ha hb I h fun v u s2 x y H2 I2 rx ry q=>ho pins s2 σ H2 x y v u Q I2 rx ry q)
theorem pe_un {op:UnaryOp}{r:V->Hp->VK->Prop}(ho:UnR X (unaryOp op) r)(ha:PE X a ta):PE X (.UnaryOp op a pos) (tUn r ta):=by
 intro pins s σ H Q I h
 exact UnaryOp_ (bK (ha pins s σ H _ I h) fun v s1 ⟨x,H1,I1,r1,q1⟩=>ho pins s1 σ H1 x v Q I1 r1 q1)
theorem opI {f:Value->Value->Sem Value}{C:Int->Int->Prop}{g:Int->Int->Int}
  (rule:∀ (i j:Int) (t u:Tok) (s:Shared) (Q:Value->Shared->Prop) (E:Value->Shared->Prop),C i j->Q (.int (g i j) s.toks) { s with toks:=s.toks+1 }->wpAny (model X.prog X.w) X.A (f (.int i t) (.int j u)) Q E s) :
  OpR X f (rI C fun i j=> .int (g i j)):=by
 intro pins s σ H x y v u Q I rx ry h
 obtain⟨i,j,rfl,rfl,hc,q⟩:=h
 obtain⟨t,rfl⟩:=rx
 obtain⟨t',rfl⟩:=ry
 exact rule i j t t' s _ _ hc ⟨.int (g i j),H,I.tok _,⟨_,rfl⟩,q⟩
theorem opI0 {f:Value->Value->Sem Value}{g:Int->Int->Int}
  (rule:∀ (i j:Int) (t u:Tok) (s:Shared) (Q:Value->Shared->Prop) (E:Value->Shared->Prop),Q (.int (g i j) s.toks) { s with toks:=s.toks+1 }->wpAny (model X.prog X.w) X.A (f (.int i t) (.int j u)) Q E s) :
  OpR X f (rI0 fun i j=> .int (g i j)):=by
 intro pins s σ H x y v u Q I rx ry h
 obtain⟨i,j,rfl,rfl,q⟩:=h
 obtain⟨t,rfl⟩:=rx
 obtain⟨t',rfl⟩:=ry
 exact rule i j t t' s _ _ ⟨.int (g i j),H,I.tok _,⟨_,rfl⟩,q⟩
theorem opB0 {f:Value->Value->Sem Value}{g:Int->Int->Bool}
  (rule:∀ (i j:Int) (t u:Tok) (s:Shared) (Q:Value->Shared->Prop) (E:Value->Shared->Prop),Q (.bool (g i j)) s->wpAny (model X.prog X.w) X.A (f (.int i t) (.int j u)) Q E s) :
  OpR X f (rI0 fun i j=> .bl (g i j)):=by
 intro pins s σ H x y v u Q I rx ry h
 obtain⟨i,j,rfl,rfl,q⟩:=h
 obtain⟨t,rfl⟩:=rx
 obtain⟨t',rfl⟩:=ry
 exact rule i j t t' s _ _ ⟨.bl (g i j),H,I,rfl,q⟩
def CDiv (i j:Int):Prop:=0<j/\j<1073741824
def CMul (i j:Int):Prop:=(-(2 ^ 64)<i/\i<2 ^ 64)\/(-(2 ^ 64)<j/\j<2 ^ 64)
theorem CMul.ok {i j:Int}(h:CMul i j):IntMulOk i j:=by
 rcases h with⟨h1,h2⟩ | ⟨h1,h2⟩
 ·exact .of_left (intBits_le_64 h1 h2)
 ·exact .of_right (intBits_le_64 h1 h2)
theorem op_add:OpR X (binaryOp .Add) (rI0 fun i j=> .int (i+j)):=opI0 fun _ _ _ _ _ _ _ q=>add_int q
theorem op_sub:OpR X (binaryOp .Sub) (rI0 fun i j=> .int (i - j)):=opI0 fun _ _ _ _ _ _ _ q=>sub_int q
theorem op_mul:OpR X (binaryOp .Mult) (rI CMul fun i j=> .int (i*j)):=opI fun _ _ _ _ _ _ _ hc q=>mul_int q hc.ok
theorem op_fdiv:OpR X (binaryOp .FloorDiv) (rI CDiv fun i j=> .int (i / j)):=opI fun i j _ _ _ _ _ hc q=>by
 have h1:(0:Int)<j:=hc.1
 have h2:j<1073741824:=hc.2
 exact floordiv_int (by omega) (by rw [Int.fdiv_eq_ediv_of_nonneg i (by omega)];exact q) (.inl (PyProof.noPylong_small (by omega)))
theorem op_mod:OpR X (binaryOp .Mod) (rI (fun _ j=>0<j) fun i j=> .int (i % j)):=opI fun i j _ _ _ _ _ hc q=>by
 have h1:(0:Int)<j:=hc
 exact mod_int' (by omega) (by rw [Int.fmod_eq_emod_of_nonneg i (by omega)];exact q)
theorem unI {f:Value->Sem Value}{g:Int->Int}
  (rule:∀ (i:Int) (t:Tok) (s:Shared) (Q:Value->Shared->Prop) (E:Value->Shared->Prop),Q (.int (g i) s.toks) { s with toks:=s.toks+1 }->wpAny (model X.prog X.w) X.A (f (.int i t)) Q E s) :
  UnR X f (rU fun i=> .int (g i)):=by
 intro pins s σ H x v Q I rx h
 obtain⟨i,rfl,q⟩:=h
 obtain⟨t,rfl⟩:=rx
 exact rule i t s _ _ ⟨.int (g i),H,I.tok _,⟨_,rfl⟩,q⟩
theorem un_neg:UnR X (unaryOp .USub) (rU fun i=> .int (-i)):=unI fun _ _ _ _ _ q=>neg_int q
end
def scal:V->V->Bool
 | .non,.non=>true | .non,.int _=>true | .int _,.non=>true | .non,.bl _=>true | .bl _,.non=>true | .non,.str _=>true | .str _,.non=>true
 | .int _,.int _=>true | .bl _,.bl _=>true | .str _,.str _=>true | .byt _,.byt _=>true
 | .int _,.str _=>true | .str _,.int _=>true | .bl _,.str _=>true | .str _,.bl _=>true
 | _,_=>false
def rNe:R2:=fun x y H Q=>scal x y=true/\Q (.bl (!decide (x=y))) H
theorem dec_int {i j:Int}:decide (V.int i=V.int j)=(i == j):=by
 rw [Bool.eq_iff_iff]
 simp
theorem dec_bl {i j:Bool}:decide (V.bl i=V.bl j)=(i == j):=by
 rw [Bool.eq_iff_iff]
 simp
theorem dec_str {i j:Str}:decide (V.str i=V.str j)=(i == j):=by
 rw [Bool.eq_iff_iff]
 simp
theorem dec_byt {i j:Array UInt8}:decide (V.byt i=V.byt j)=(i.toList == j.toList):=by
 rw [Bool.eq_iff_iff]
 cases i
 cases j
 simp
section
variable {X:Cx}{a b c:Expr}{ta tb tc:TE}{pos:Pos}
theorem cU {pins:List (Addr×Obj)}{σ:St}{H:Hp}{s:Shared}{Q:VK}{k k':Bool}(I:Inv X pins σ H s)(q:Q (.bl k) H)(e:k=k'):EP X pins σ Q (.bool k') s:=by
 subst e
 exact⟨.bl k,H,I,rfl,q⟩
theorem op_ne:OpR X (compareOp .NotEq) rNe:=by
 intro pins s σ H x y v u Q I rx ry h
 obtain⟨hs,q⟩:=h
 cases x with
 | non=>
  cases rx
  cases y with
  | non=>cases ry;exact PySem.EqNone.ne_none_none (cU I q (by simp))
  | bl j=>cases ry;exact PySem.EqNone.ne_none_bool (cU I q (by simp))
  | int j=>obtain⟨t',rfl⟩:=ry;exact PySem.EqNone.ne_none_int (cU I q (by simp))
  | str j=>obtain⟨t',rfl⟩:=ry;exact PySem.EqNone.ne_none_str (cU I q (by simp))
  | _=>exact absurd (show false=true from hs) Bool.false_ne_true
 | bl i=>
  cases rx
  cases y with
  | non=>cases ry;exact PySem.EqNone.ne_bool_none (cU I q (by simp))
  | bl j=>cases ry;exact ne_bool (cU I q (congrArg not dec_bl))
  | str j=>obtain⟨t',rfl⟩:=ry;exact PySem.EqMixed.ne_bool_str (cU I q (by simp))
  | _=>exact absurd (show false=true from hs) Bool.false_ne_true
 | int i=>
  obtain⟨t,rfl⟩:=rx
  cases y with
  | non=>cases ry;exact PySem.EqNone.ne_int_none (cU I q (by simp))
  | int j=>obtain⟨t',rfl⟩:=ry;exact ne_int (cU I q (congrArg not dec_int))
  | str j=>obtain⟨t',rfl⟩:=ry;exact PySem.EqMixed.ne_int_str (cU I q (by simp))
  | _=>exact absurd (show false=true from hs) Bool.false_ne_true
 | str i=>
  obtain⟨t,rfl⟩:=rx
  cases y with
  | non=>cases ry;exact PySem.EqNone.ne_str_none (cU I q (by simp))
  | bl j=>cases ry;exact PySem.EqMixed.ne_str_bool (cU I q (by simp))
  | int j=>obtain⟨t',rfl⟩:=ry;exact PySem.EqMixed.ne_str_int (cU I q (by simp))
  | str j=>obtain⟨t',rfl⟩:=ry;exact ne_str (cU I q (congrArg not dec_str))
  | _=>exact absurd (show false=true from hs) Bool.false_ne_true
 | byt i=>
  obtain⟨t,rfl⟩:=rx
  cases y with
  | byt j=>obtain⟨t',rfl⟩:=ry;exact PySem.W.ne_bytes (cU I q (congrArg not dec_byt))
  | _=>exact absurd (show false=true from hs) Bool.false_ne_true
 | _=>cases y <;> exact absurd (show false=true from hs) Bool.false_ne_true
theorem op_lt:OpR X (compareOp .Lt) (rI0 fun i j=> .bl (decide (i<j))):=opB0 fun _ _ _ _ _ _ _ q=>lt_int q
theorem op_le:OpR X (compareOp .LtE) (rI0 fun i j=> .bl (decide (i<=j))):=opB0 fun _ _ _ _ _ _ _ q=>le_int q
theorem op_isN:OpR X (compareOp .Is) (fun x y H Q=>y= .non/\Q (.bl (decide (x= .non))) H):=by
 intro pins s σ H x y v u Q I rx ry h
 obtain⟨rfl,q⟩:=h
 cases ry
 refine is_none_gen (cU I q ?_)
 cases x <;> first
  | (cases rx;rfl)
  | (obtain⟨t,rfl⟩:=rx;rfl)
theorem op_notN:OpR X (compareOp .IsNot) (fun x y H Q=>y= .non/\Q (.bl (!decide (x= .non))) H):=by
 intro pins s σ H x y v u Q I rx ry h
 obtain⟨rfl,q⟩:=h
 cases ry
 refine isnot_none_gen (cU I q ?_)
 cases x <;> first
  | (cases rx;rfl)
  | (obtain⟨t,rfl⟩:=rx;rfl)
theorem nomark (b:Expr){op:CmpOp}(h:op≠ .In:=by decide)(h2:op≠ .NotIn:=by decide):behindInMarks op b=false:=by
 have e1:(op == CmpOp.In)=false:=by cases op <;> first | rfl | exact absurd rfl h
 have e2:(op == CmpOp.NotIn)=false:=by cases op <;> first | rfl | exact absurd rfl h2
 cases b <;> simp [behindInMarks,e1,e2]
def tTest (t:TE):TT:=fun σ H Q=>t σ H fun x H'=> ∃k,x= .bl k/\Q k H'
theorem pt_cmpR {op:CmpOp}{r:R2}(ho:OpR X (compareOp op) r)(ha:PE X a ta)(hb:PE X b tb)(hm:behindInMarks op b=false):PT X (.Compare a [op] [b] pos) (tTest (tOp r ta tb)):=by
 intro pins s σ H Q I h
 refine wpAny_isTrue_Compare1 (bK (ha pins s σ H _ I h) fun v s1 ⟨x,H1,I1,r1,q1⟩=>bK (hb pins s1 σ H1 _ I1 q1) fun u s2 ⟨y,H2,I2,r2,q2⟩=>
  bK (ho pins s2 σ H2 x y v u _ I2 r1 r2 q2) fun c s3 ⟨z,H3,I3,r3,k,e,q3⟩=> ?_) hm
 subst e
 cases r3
 exact wpAny_truthy_bool ⟨H3,I3,q3⟩
theorem line63:(sizeLine:Nat)<2 ^ 63:=by rw [sizeLine_eq];decide
theorem op_add_str:OpR X (binaryOp .Add) (fun x y H Q=> ∃i j,x= .str i/\y= .str j/\i.length+j.length<=sizeLine/\Q (.str (i++j)) H):=by
 intro pins s σ H x y v u Q I rx ry h
 obtain⟨i,j,rfl,rfl,hz,q⟩:=h
 obtain⟨t,rfl⟩:=rx
 obtain⟨t',rfl⟩:=ry
 exact add_str (fun t' tk=>⟨.str (i++j),H,I.tok _,⟨_,rfl⟩,q⟩) hz
theorem vals1 {x:V}{us:List Value}(r:Vals [x] us):∃ u,us= [u]/\RelV x u:=by
 cases r with
 | cons r1 r2=>cases r2;exact⟨_,rfl,r1⟩
theorem vals2 {x y:V}{us:List Value}(r:Vals [x,y] us):∃ u w',us= [u,w']/\RelV x u/\RelV y w':=by
 cases r with
 | cons r1 r2=>
  cases r2 with
  | cons r3 r4=>cases r4;exact⟨_,_,rfl,r1,r3⟩
theorem call_int1:CallR X (.type "int") (fun xs H Q=>(∃i,xs= [.int i]/\Q (.int i) H)\/∃ k,xs= [.bl k]/\Q (.int (if k then 1 else 0)) H):=by
 intro pins s σ H xs us Q I r h
 rcases h with⟨i,rfl,q⟩ | ⟨k,rfl,q⟩
 ·obtain⟨u,rfl,t,rfl⟩:=vals1 r
  exact call_int_int ⟨.int i,H,I,⟨_,rfl⟩,q⟩
 ·obtain⟨u,rfl,r1⟩:=vals1 r
  cases r1
  exact call_int_bool ⟨.int (if k then 1 else 0),H,I.tok _,⟨_,rfl⟩,q⟩
end
structure ObjM (h:Heap)(x dx C:Addr)(mA:Str->Option Value):Prop where
 obj:h.get? x=some (PySem.W.instObj C dx)
 ns:h.Ns1 dx mA
 ne:dx≠x
theorem lookIn_ns {h:Heap}{dx:Addr}{mA:Str->Option Value}(n:h.Ns1 dx mA):∃ od,h.get? dx=some od/\∀ name,PySem.W.lookIn name od=some (mA name):=by
 obtain⟨o,es,ep,ho,hd,hk,_,hm⟩:=n
 refine⟨o,ho,fun name=> ?_⟩
 have e:=hm name
 unfold nsFind findBy at e
 rw [<-Array.find?_toList]at e
 unfold PySem.W.lookIn
 rw [hd]
 dsimp only
 split
 ·rename_i y q
  rw [q]at e
  exact congrArg some e
 ·rename_i q
  rw [q]at e
  have a:es.toList.any (·.refKey)=false:=by
   rw [List.any_eq_false]
   intro y hy
   obtain⟨z,t,hkey⟩:=hk y (Array.mem_toList_iff.mp hy)
   simp [DictEntry.refKey,hkey]
  have a':¬ es.toList.any (·.refKey)=true:=by rw [a];exact Bool.false_ne_true
  rw [if_neg a']
  exact congrArg some e
theorem ObjM.look {h:Heap}{x dx C:Addr}{mA:Str->Option Value}(I:ObjM h x dx C mA):∃ od,PySem.W.InstAt h x (PySem.W.instObj C dx) C (some od)/\∀ name,PySem.W.lookIn name od=some (mA name):=
 let ⟨od,ho,hl⟩:=lookIn_ns I.ns
 ⟨od,⟨I.obj,rfl,rfl,ho⟩,hl⟩
theorem RelO.some_of {v:V}{o:Option Value}(r:RelO (some v) o):∃ u,o=some u/\RelV v u:=by
 cases o with
 | none=>exact(show False from r).elim
 | some u=>exact⟨u,rfl,r⟩
section
variable {P:Program}{w:World}{H H':Hp}{h h':Heap}{a C dx:Addr}{fs fs':List (Str×V)}
theorem ins_get (hok:HOk P w H h)(e:H a=some (.ins C dx fs)):∃ mA,ObjM h a dx C mA/\(∀f,RelO (fs.lookup f) (mA f))/\PySem.Within mA (fs.map (·.1))/\fs.length<=1000/\H dx=some (.own a):=by
 obtain⟨d,z,ne,ob,mA,n,r,q⟩:=(show ObjOk P w H h a (.ins C dx fs)from hok a _ e)
 exact⟨mA,⟨ob,n,ne⟩,r,q,z,d⟩
end
structure Cls (K:PySem.W.Frag)(C:Addr):Prop where
 pg:PySem.W.plainGet K C Str.empty=true
 hd:PySem.W.hasDictIn K C=true
 po:PySem.W.plainOver K C=true
 sa:PySem.W.findIn K (.ref C) "__setattr__" =some (some (.builtin "object.__setattr__"))
theorem Cls.get {K:PySem.W.Frag}{C:Addr}(c:Cls K C)(f:Str):PySem.W.plainGet K C f=true:=c.pg
section
variable {X:Cx}{pins:List (Addr×Obj)}{σ:St}{H:Hp}{s:Shared}{A:Around}{E:Value->Shared->Prop}{Q:Value->Shared->Prop}{c:Value}{b:Bool}
inductive TyOf (K:PySem.W.Frag) (H:Hp):V->Value->Prop where
 | non:TyOf K H .non (.type "NoneType")
 | bl (x:Bool):TyOf K H (.bl x) (.type "bool")
 | int (i:Int):TyOf K H (.int i) (.type "int")
 | str (x:Str):TyOf K H (.str x) (.type "str")
 | flt (x:UInt64):TyOf K H (.flt x) (.type "float")
 | lst {a:Addr} {xs:List V} (e:H a=some (.lst xs)):TyOf K H (.ref a) (.type "list")
 | frz {a:Addr} {o:Obj} {xs:List V} (e:H a=some (.frz o (.lst xs))):TyOf K H (.ref a) (.type "list")
 | tup {a:Addr} {xs:List V} (e:H a=some (.tup xs)):TyOf K H (.ref a) (.type "tuple")
 | dK {a:Addr} {kvs:List (Key×V)} (e:H a=some (.dK kvs)):TyOf K H (.ref a) (.type "dict")
 | dT {a:Addr} {kvs:List (List Key×V)} (e:H a=some (.dT kvs)):TyOf K H (.ref a) (.type "dict")
 | ins {a C dx:Addr} {fs:List (Str×V)} (e:H a=some (.ins C dx fs)) (cl:Cls K C) (ha:PySem.W.findIn K (.ref C) "__class__" =some (some (.builtin "object.__class__")))
   (hn:PySem.W.specialIn K (.builtin "object.__class__") "__get__" =some (some (.builtin "getset_descriptor.__get__"))) (htk:PySem.W.takesIn K (.builtin "object.__class__")=some true)
   (hm:PySem.W.mroIn K C (.type "object")=some true):TyOf K H (.ref a) (.ref C)
theorem isinst_ok {x:V}{u t:Value}(I:Inv X pins σ H s)(rx:RelV x u)(ty:TyOf X.K H x t)(e:PySem.W.kitOne X.K t c=some b)(h:∀ tk,Q (.bool b) { s with toks:=tk }) :
  wpAny (model X.prog X.w) A (call (.builtin "isinstance") [u,c]) Q E s:=by
 cases ty with
 | non=>cases (show u=Value.none from rx);exact PySem.W.kia_one PySem.W.kitx_none I.kIn True.intro e (fun z=>nomatch z) h
 | bl y=>cases (show u=Value.bool y from rx);exact PySem.W.kia_one PySem.W.kitx_bool I.kIn True.intro e (fun z=>nomatch z) h
 | int i=>obtain⟨t,q⟩:=(show ∃t,u=Value.int i t from rx);cases q;exact PySem.W.kia_one PySem.W.kitx_int I.kIn True.intro e (fun z=>nomatch z) h
 | str y=>obtain⟨t,q⟩:=(show ∃t,u=Value.str y t from rx);cases q;exact PySem.W.kia_one PySem.W.kitx_str I.kIn True.intro e (fun z=>nomatch z) h
 | flt y=>obtain⟨t,q⟩:=(show ∃t,u=Value.float y t from rx);cases q;exact PySem.W.kia_one PySem.W.kitx_float I.kIn True.intro e (fun z=>nomatch z) h
 | @lst a xs ea=>
  cases (show u=Value.ref a from rx)
  obtain⟨_,_,n,_,h1⟩:=(show ObjOk X.prog X.w H s.heap a (.lst xs)from I.hok a _ ea)
  exact PySem.W.kia_one PySem.W.kitx_list I.kIn ⟨_,h1,rfl⟩ e (fun z=>nomatch z) h
 | @frz a ob xs ea=>
  cases (show u=Value.ref a from rx)
  obtain⟨_,_,_,n,_,h1⟩:=(show ObjOk X.prog X.w H s.heap a (.frz ob (.lst xs))from I.hok a _ ea)
  exact PySem.W.kia_one PySem.W.kitx_list I.kIn ⟨_,h1,rfl⟩ e (fun z=>nomatch z) h
 | @tup a xs ea=>
  cases (show u=Value.ref a from rx)
  obtain⟨_,_,_,p⟩:=(show ObjOk X.prog X.w H s.heap a (.tup xs)from I.hok a _ ea)
  obtain⟨o,h1,h2,_⟩:=p
  exact PySem.W.kia_one PySem.W.kitx_tuple I.kIn ⟨o,h1,h2⟩ e (fun z=>nomatch z) h
 | @dK a kvs ea=>
  cases (show u=Value.ref a from rx)
  obtain⟨_,_,vs,_,p⟩:=(show ObjOk X.prog X.w H s.heap a (.dK kvs)from I.hok a _ ea)
  obtain⟨o,es,ep,h1,h2,_⟩:=p
  exact PySem.W.kia_one PySem.W.kitx_dict I.kIn ⟨o,h1,h2.1⟩ e (fun z=>nomatch z) h
 | @dT a kvs ea=>
  cases (show u=Value.ref a from rx)
  obtain⟨_,_,xs,_,o,es,ep,h1,h2,_⟩:=(show ObjOk X.prog X.w H s.heap a (.dT kvs)from I.hok a _ ea)
  exact PySem.W.kia_one PySem.W.kitx_dict I.kIn ⟨o,h1,h2.1⟩ e (fun z=>nomatch z) h
 | @ins a C dx fs ea cl ha hn htk hm=>
  cases (show u=Value.ref a from rx)
  obtain⟨mA,O,_⟩:=ins_get I.hok ea
  obtain⟨od,J,_⟩:=O.look
  exact PySem.W.kia_one (PySem.W.kitx_own (cl.get _) cl.hd ha hn htk hm) I.kIn J e (fun z=>nomatch z) h
end
structure Room (k:Nat)(A:Around):Prop where
 hd:A.handled=none
 dp:A.depth+3*k+5<recursionLimit
 un:A.units+16*k+200<cLine
theorem Room.mono {j k:Nat}{A:Around}(r:Room k A)(h:j<=k):Room j A:=⟨r.hd,by have:=r.dp;omega,by have:=r.un;omega⟩
theorem Room.deeper {k:Nat}{A:Around}(r:Room (k+1) A)(env:Env):Room k (A.deeper env):=
 ⟨r.hd,by have:=r.dp;show A.depth+1+3*k+5<_;omega,by have:=r.un;show A.units+3+16*k+200<_;omega⟩
theorem Room.depth {k:Nat}{A:Around}(r:Room k A):A.depth<recursionLimit:=by have:=r.dp;omega
def tNil:TA:=fun _ H Q=>Q [] H
def fV (ta:TE)(tr:TA):TA:=fun σ H Q=>ta σ H fun x H1=>tr σ H1 fun xs H2=>Q (x::xs) H2
section
variable {X:Cx}{e:Expr}{es:List Expr}{te:TE}{t:TA}{pos:Pos}
theorem db:PA X [] tNil:=fun _ _ _ _ H Q I h=>Calls.spliced_nil ⟨[],H,I,.nil,h⟩
theorem a6 (ha:PE X e te)(hr:PA X es t)(hs:starEach (e::es) X.env=(false,eval e X.env)::starEach es X.env:=by rfl):PA X (e::es) (fV te t):=by
 intro pos pins s σ H Q I h
 rw [hs]
 show wpAny _ _ (spliced ((false,eval e X.env)::backTo pos (starEach es X.env))) _ _ s
 refine Calls.spliced_cons (bK (ha pins s σ H _ I h) fun u s1 hh_=> ?_)
 obtain⟨x,H1,I1,r1,q1⟩:=hh_
 exact bK (hr pos pins s1 σ H1 _ I1 q1) fun us s2 ⟨xs,H2,I2,r2,q2⟩=>⟨x::xs,H2,I2,.cons r1 r2,q2⟩
def tTup (t:TA):TE:=fun σ H Q=>t σ H fun xs H1=>xs.length<=sizeLine/\∀ p,H1 p=none->Q (.ref p) (upd H1 p (.tup xs))
def tLst (t:TA):TE:=fun σ H Q=>t σ H fun xs H1=>xs.length<=sizeLine/\∀ p,H1 p=none->Q (.ref p) (upd H1 p (.lst xs))
theorem pe_tup {x1}(h:PA X es t):PE X (.Tuple es x1 pos) (tTup t):=by
 intro pins s σ H Q I hq
 refine wpAny_Tuple_spliced (bK (h pos pins s σ H _ I hq) fun us s1 ⟨xs,H1,I1,r,z,q⟩=>⟨by rw [<-r.length];exact z,?_⟩)
 have hf:H1 s1.heap.objs.size=none:=I1.hok.fresh (Nat.le_refl _)
 refine⟨.ref s1.heap.objs.size,upd H1 s1.heap.objs.size (.tup xs),I1.laid (t':=s1.toks) (fun b u e=>Heap.get?_push_of_some _ e) (Nat.le_refl _) ?_,rfl,q _ hf⟩
 exact⟨z,us,r,⟨_,Heap.get?_push_size _ rfl,rfl,_,rfl⟩⟩
theorem pe_lst (h:PA X es t):PE X (.List es pos) (tLst t):=by
 intro pins s σ H Q I hq
 refine wpAny_List_spliced (bK (h pos pins s σ H _ I hq) fun us s1 ⟨xs,H1,I1,r,z,q⟩=>⟨by rw [<-r.length];exact z,?_⟩)
 have hf:H1 s1.heap.objs.size=none:=I1.hok.fresh (Nat.le_refl _)
 refine⟨.ref s1.heap.objs.size,upd H1 s1.heap.objs.size (.lst xs),I1.laid (t':=s1.toks) (fun b u e=>Heap.get?_push_of_some _ e) (Nat.le_refl _) ?_,rfl,q _ hf⟩
 exact⟨z,us,0,r,Heap.get?_push_size _ rfl⟩
end
abbrev Sp:=List V->Hp->VK->XK->Prop
abbrev CXT:=List Env->Hp->Shared->XK->Value->Shared->Prop
structure Env0 (P:Program)(w:World)(K:PySem.W.Frag)(mg:Str->Option Value)(base:Heap)(A:Around)(outer:List Env)(s:Shared)(H:Hp):Prop where
 frames:A.frames=some outer
 mod:Mod K mg base
 bs:∀ b o,base.get? b=some o->s.heap.get? b=some o/\H b=none
 bsz:base.objs.size<=s.heap.objs.size
 funs:s.heap.FunFrames base outer
 frf:∀ b∈frs outer,H b=none
 hok:HOk P w H s.heap
 bare:AllBare s.gens
def CE (outer:List Env)(P:Program)(w:World)(H:Hp)(s:Shared)(Q:VK)(u:Value)(s':Shared):Prop:=
 ∃v H',s'.os=s.os/\AllBare s'.gens/\Un (frs outer) [] H H' s.heap s'.heap/\HOk P w H' s'.heap/\RelV v u/\Q v H'
def CR (CX:CXT)(outer:List Env)(P:Program)(w:World)(H:Hp)(s:Shared)(Q:VK)(E:XK)(r:Result)(s':Shared):Prop:=
 match r with
 | .ok (.ret u)=>CE outer P w H s Q u s'
 | .ok _=>False
 | .error e=>CX outer H s E e s'
structure FnOk (P:Program)(w:World)(K:PySem.W.Frag)(mg:Str->Option Value)(base:Heap)(CX:CXT)(k:Nat)(f:Addr)(fd:FuncData)(ps:List Str)(sp:Sp):Prop where
 len:∀ vs H Q E,sp vs H Q E->vs.length=ps.length
 run:∀ (A:Around) (outer:List Env) (s:Shared) (H:Hp) (args:Args) (us:List Value) (vs:List V) (Q:VK) (E:XK),Room k A->Env0 P w K mg base A outer s H->BindsTo s fd args (ps.zip us)->Vals vs us->sp vs H Q E →
  codeAny (model P w) A (.call (.ref f) args) (CR CX outer P w H s Q E) s
section
variable {X:Cx}{pins:List (Addr×Obj)}{σ:St}{H:Hp}{s s':Shared}
theorem Inv.env0 (I:Inv X pins σ H s):Env0 X.prog X.w X.K X.mg X.base X.A X.stack s H:=
 ⟨I.ok.frames,I.ok.mod,I.bs,Nat.le_trans I.ok.bsz I.sz,I.stack,I.stkFree,I.hok,I.bare⟩
theorem Inv.after {Q:VK}{u:Value}(I:Inv X pins σ H s)(h:CE X.stack X.prog X.w H s Q u s'):EP X pins σ Q u s':=by
 obtain⟨v,H',os,bare,un,hok,r,q⟩:=h
 obtain⟨hh,g,d,t,os'⟩:=s'
 obtain rfl:os'=s.os:=os
 exact⟨v,H',I.call (h':=hh) (g':=g) (d':=d) (t':=t) (ch:=[]) un hok bare (fun b z=>absurd z (by simp)),r,q⟩
end
def tCall (sp:Sp)(dvs:List V)(E:XK)(t:TA):TE:=fun σ H Q=>t σ H fun vs H1=>sp (vs++dvs) H1 Q E
def Binds (K:PySem.W.Frag)(fd:FuncData)(ps:List Str)(ds:List Value):Prop:=
 ∀(s:Shared) (us:List Value),K.In s.heap->(us++ds).length=ps.length->BindsTo s fd ⟨us,[]⟩ (ps.zip (us++ds))
theorem Binds.all {K:PySem.W.Frag}{fd:FuncData}{ps:List Str}(h:∀ us:List Value,us.length=ps.length->bindArgs fd ⟨us,[]⟩=pure (ps.zip us)):Binds K fd ps []:=fun s us _ hl=>by
 rw [List.append_nil]at hl ⊢
 exact .of_eq (h us hl)
def Passes (CX:CXT)(X:Cx)(E:XK):Prop:=∀ (pins:List (Addr×Obj)) (σ:St) (H:Hp) (s:Shared) (e:Value) (s':Shared),Inv X pins σ H s->CX X.stack H s E e s'->X.xe e s'
section
variable {X:Cx}{CX:CXT}{k:Nat}{f C:Addr}{fd:FuncData}{ps:List Str}{sp:Sp}{dvs:List V}{ds:List Value}{E:XK}{x m:Str}{p pos apos:Pos}{e o:Expr}{es:List Expr}{ta:TE}{t:TA}
theorem run_fn {pins:List (Addr×Obj)}{σ:St}{H:Hp}{s:Shared}{Q:VK}{us:List Value}{vs:List V}(F:FnOk X.prog X.w X.K X.mg X.base CX k f fd ps sp)(hr:Room k X.A)(hb:Binds X.K fd ps ds)(hd:Vals dvs ds)(hx:Passes CX X E)
  (I:Inv X pins σ H s) (r:Vals vs us) (h:sp (vs++dvs) H Q E):wpAny (model X.prog X.w) X.A (call (.ref f) us) (EP X pins σ Q) X.xe s:=by
 have r2:Vals (vs++dvs) (us++ds):=r.append hd
 have hl:(us++ds).length=ps.length:=by rw [<-r2.length];exact F.len _ _ _ _ h
 refine wpAny_call (codeAny_mono (F.run X.A X.stack s H ⟨us,[]⟩ (us++ds) (vs++dvs) Q E hr I.env0 (hb s us I.kIn hl) r2 h) fun r s' hq=> ?_)
 cases r with
 | error e=>exact hx pins σ H s e s' I hq
 | ok fl=>
  cases fl with
  | ret u=>exact I.after hq
  | next=>exact False.elim hq
  | brk=>exact False.elim hq
  | cont=>exact False.elim hq
theorem pe_call (F:FnOk X.prog X.w X.K X.mg X.base CX k f fd ps sp)(hr:Room k X.A)(hg:Gl X x)(hm:X.mg x=some (.ref f))(hk:PySem.W.keepIn X.K (.ref f)=true)(hb:Binds X.K fd ps ds)(hd:Vals dvs ds)(hx:Passes CX X E)
  (ha:PA X (e::es) t) (hdb:(x == ("__debug__" : Str))=false:=by decide) (he:starEach (e::es) X.env=(false,eval e X.env)::starEach es X.env:=by rfl) (hpl:(backTo pos (starEach es X.env)).any (·.1)=false:=by rfl) :
  PE X (.Call (.Name x p) (e::es) [] pos) (tCall sp dvs E t):=by
 intro pins s σ H Q I h
 refine wpAny_Call_Name_kw (ld_glob I hg hm ?_ hdb)
 refine PySem.W.callWith_K (h₀:=X.base) I.ok.mod.kin hk (bK (ha pos pins s σ H _ I h) fun us s1 ⟨vs,H1,I1,r,q⟩=>⟨I1.kIn,?_⟩) he hpl
 exact run_fn F hr hb hd hx I1 r q
end
structure aB (N P:List Str)(sc:Scope):Prop where
 kind:sc.kind= .function
 co:sc.isCoroutine=false
 gen:sc.isGenerator=false
 nd:N.Nodup
 pre:N.take P.length=P
 par:∀ x∈P,sc.names.lookup x=some .local\/sc.names.lookup x=some .cell
 nofree:∀ y∈sc.names,y.2≠ .free
theorem bindL_out {kindOf:Str->Option NameKind}{x:Str}:∀ {binds:List (Str×Value)} {m:Str->Option Value},(∀v,(x,v)∉binds)->bindL kindOf binds m x=m x
 | [],_,_=>rfl
 | (n,v)::r,m,h=>by
  unfold bindL
  rw [bindL_out fun w hw=>h w (List.mem_cons_of_mem _ hw)]
  split
  ·have:x≠n:=by rintro rfl;exact h v List.mem_cons_self
   simp [this]
  ·rfl
theorem bindC_out {kindOf:Str->Option NameKind}{x:Str}:∀ {binds:List (Str×Value)} {m:Str->Option Value},(∀v,(x,v)∉binds)->bindC kindOf binds m x=m x
 | [],_,_=>rfl
 | (n,v)::r,m,h=>by
  unfold bindC
  rw [bindC_out fun w hw=>h w (List.mem_cons_of_mem _ hw)]
  split
  ·rfl
  ·have:x≠n:=by rintro rfl;exact h v List.mem_cons_self
   simp [this]
theorem bindL_get {kindOf:Str->Option NameKind}{x:Str}{v:Value}:∀ {P:List Str} {vs:List Value} {i:Nat} {m:Str->Option Value},P.Nodup->P[i]? =some x->vs[i]? =some v->kindOf x=some .local →
  bindL kindOf (P.zip vs) m x=some v
 | [],_,_,_,_,h,_,_=>by simp at h
 | _::_,[],_,_,_,_,h,_=>by simp at h
 | p::P,w::vs,0,m,nd,h1,h2,hk=>by
  simp at h1 h2;subst h1;subst h2
  show bindL kindOf ((p,w)::P.zip vs) m p=_
  unfold bindL
  rw [bindL_out fun v hv=>(List.nodup_cons.mp nd).1 (List.of_mem_zip hv).1,if_pos hk]
  simp
 | p::P,w::vs,i+1,m,nd,h1,h2,hk=>by
  show bindL kindOf ((p,w)::P.zip vs) m x=_
  unfold bindL
  exact bindL_get (i:=i) (List.nodup_cons.mp nd).2 (by simpa using h1) (by simpa using h2) hk
theorem bindC_get {kindOf:Str->Option NameKind}{x:Str}{v:Value}:∀ {P:List Str} {vs:List Value} {i:Nat} {m:Str->Option Value},P.Nodup->P[i]? =some x->vs[i]? =some v->kindOf x≠some .local →
  bindC kindOf (P.zip vs) m x=some v
 | [],_,_,_,_,h,_,_=>by simp at h
 | _::_,[],_,_,_,_,h,_=>by simp at h
 | p::P,w::vs,0,m,nd,h1,h2,hk=>by
  simp at h1 h2;subst h1;subst h2
  show bindC kindOf ((p,w)::P.zip vs) m p=_
  unfold bindC
  rw [bindC_out fun v hv=>(List.nodup_cons.mp nd).1 (List.of_mem_zip hv).1,if_neg hk]
  simp
 | p::P,w::vs,i+1,m,nd,h1,h2,hk=>by
  show bindC kindOf ((p,w)::P.zip vs) m x=_
  unfold bindC
  exact bindC_get (i:=i) (List.nodup_cons.mp nd).2 (by simpa using h1) (by simpa using h2) hk
def start (N:List Str)(vs:List V):St:=vs.map some++List.replicate (N.length - vs.length) none
def cxOf (CX:CXT)(P:Program)(w:World)(K:PySem.W.Frag)(mg:Str->Option Value)(base:Heap)(N:List Str)(qual:Str)(scope:Scope)(f:Addr)(cd:Value)(A:Around)(outer:List Env)(s:Shared)(H:Hp)(E:XK):Cx where
 prog:=P
 w:=w
 K:=K
 mg:=mg
 base:=base
 A:=A.deeper (envOfC qual scope s.heap.objs.size f cd)
 N:=N
 s₀:=s
 H₀:=H
 env:=envOfC qual scope s.heap.objs.size f cd
 outer:=outer
 stack:=envOfC qual scope s.heap.objs.size f cd::outer
 ex:=[]
 calm:=true
 fn:=fun _=>true
 pn:=[]
 xe:=fun e s'=>wpAny (model P w) (A.deeper (envOfC qual scope s.heap.objs.size f cd)) (leaving (envOfC qual scope s.heap.objs.size f cd) e) (fun _ s''=>CX outer H s E e s'') (fun e' s''=>CX outer H s E e' s'') s'
theorem cell_has {sc:Scope}{n:Nat}{x:Str}(h:sc.names.lookup x=some .cell):∃ c,(cellsFrom n sc.names []).lookup x=some c:=by
 have q:=PySem.W.cellsFrom_some sc.names n [] (.inl h)
 exact Option.isSome_iff_exists.mp q
theorem inv_start {CX:CXT}{P:Program}{w:World}{K:PySem.W.Frag}{mg:Str->Option Value}{base:Heap}{N ps:List Str}{qual:Str}{scope:Scope}{f:Addr}{cd:Value}{A:Around}{outer:List Env}{s s1:Shared}{H:Hp}{E:XK}{us:List Value}{vs:List V}
  (S:aB N ps scope) (hd:A.handled=none) (e0:Env0 P w K mg base A outer s H) (hl:vs.length=ps.length) (r:Vals vs us)
  (x:InCallC s s.heap.objs.size (bindL (envOfC qual scope s.heap.objs.size f cd).kindOf (ps.zip us) fun _=>none) (cellsFrom (s.heap.objs.size+1) scope.names []) (bindC (envOfC qual scope s.heap.objs.size f cd).kindOf (ps.zip us) fun _=>none) s1) :
  Inv (cxOf CX P w K mg base N qual scope f cd A outer s H E) [] (start N vs) H s1:=by
 have hpl:ps.length<=N.length:=by have:=congrArg List.length S.pre;rw [List.length_take]at this;omega
 obtain⟨h1,tk,rfl,hk⟩:=x.done
 have noA:∀ b:Addr,b∉(cxOf CX P w K mg base N qual scope f cd A outer s H E).ex:=fun b z=>absurd (show b∈([]:List Addr)from z) (by simp)
 refine⟨⟨e0.mod,S.kind,rfl,rfl,Nat.le_refl _,fun y z c h1 h2=> ?_,fun y hy=> ?_,fun y c _ h=> ?_,fun _=>hd,Around.frames_deeper e0.frames,.inr ⟨rfl,rfl⟩,fun b z=>absurd z (noA b),e0.bs,e0.bsz,fun b _ _=>noA b,fun b z=>absurd z (noA b),e0.funs,e0.frf⟩,
  rfl,e0.bare,Un.kept hk,⟨_,x.toInCall.ns,fun i y v h1 h2 h3=> ?_⟩,fun y c h=>⟨_,x.cell y c h⟩,e0.hok.fresh (Nat.le_refl _),fun y c h=> ?_,fun p hp=>absurd (show p∈([]:List (Addr×Obj))from hp) (by simp),e0.hok.kept hk,?_⟩
 ·exact name_of_addr x.apart (PySem.mem_of_lookup h1) (PySem.mem_of_lookup h2)
 ·have hy:scope.names.lookup y=some .cell\/scope.names.lookup y=some .free:=hy
  rcases hy with hy | hy
  ·exact cell_has hy
  ·exact absurd rfl (S.nofree _ (PySem.mem_of_lookup hy))
 ·exact Nat.le_of_lt (x.above y c (PySem.mem_of_lookup h))
 ·have hi:i<vs.length:=by
   unfold start at h2
   by_cases hi:i<vs.length
   ·exact hi
   ·rw [List.getElem?_append_right (by simpa using hi)]at h2
    rw [List.getElem?_replicate]at h2
    split at h2 <;> cases h2
  have ha:vs[i]? =some v:=by
   unfold start at h2
   rw [List.getElem?_append_left (by simpa using hi),List.getElem?_map]at h2
   cases e:vs[i]? with
   | none=>rw [e]at h2;cases h2
   | some a=>rw [e]at h2;cases h2;rfl
  obtain⟨u,hu,rv⟩:=r.get ha
  have hp:ps[i]? =some y:=by
   rw [<-S.pre,List.getElem?_take_of_lt (by omega)];exact h1
  have ndP:ps.Nodup:=by rw [<-S.pre];exact S.nd.sublist (List.take_sublist _ _)
  refine⟨u,rv,?_⟩
  rcases S.par y (List.mem_of_getElem? hp)with k | k
  ·exact .inl ⟨k,bindL_get ndP hp hu k⟩
  ·obtain⟨c,e⟩:=cell_has (n:=s.heap.objs.size+1) k
   refine .inr ⟨.inl k,c,e,?_⟩
   have q:=x.cell y c e
   rw [bindC_get ndP hp hu (by show scope.names.lookup y≠_;rw [k];decide)]at q
   exact q
 ·exact e0.hok.fresh (Nat.le_of_lt (x.above y c (PySem.mem_of_lookup h)))
 ·unfold start
  show _=N.length
  rw [List.length_append,List.length_map,List.length_replicate]
  omega
theorem fn_of {CX:CXT}{P:Program}{w:World}{K:PySem.W.Frag}{mg:Str->Option Value}{base:Heap}{k:Nat}{f:Addr}{name qual:Str}{params:Arguments}{body:List Stmt}{scope:Scope}{dV kV doc pm cdv ct oc:Value}{an od:Option Addr}
  {osl:Array (Option Value)} {N ps:List Str} {sp:Sp} (lk:K.lookup f=some ⟨oc,od,.func (PySem.W.fnOf name qual params body scope dV kV doc pm an cdv ct),osl⟩) (hcd:PySem.W.codeIn K cdv qual=true) (S:aB N ps scope)
  (len:∀ vs H Q E,sp vs H Q E->vs.length=ps.length)
  (hbody:∀ (A:Around) (outer:List Env) (s:Shared) (H:Hp) (vs:List V) (Q:VK) (E:XK),Room k (A.deeper (envOfC qual scope s.heap.objs.size f cdv))->sp vs H Q E →
   ∃t,PSs (cxOf CX P w K mg base N qual scope f cdv A outer s H E) body t/\t { nx:=fun _ H'=>Q .non H',rt:=Q } (start N vs) H) :
  FnOk P w K mg base CX (k+1) f (PySem.W.fnOf name qual params body scope dV kV doc pm an cdv ct) ps sp:=by
 refine⟨len,fun A outer s H args us vs Q E hr e0 hb r hsp=> ?_⟩
 have hl:=len _ _ _ _ hsp
 have KX:K.In s.heap:=e0.mod.kin.keeps fun b o e=>(e0.bs b o e).1
 have lim:s.heap.NoLimit:=e0.mod.nolimit.keeps fun b o e=>(e0.bs b o e).1
 have hkind:∀ y∈ps.zip us,scope.names.lookup y.1=some .local\/(scope.names.lookup y.1=some .cell/\((cellsFrom (s.heap.objs.size+1) scope.names []).lookup y.1).isSome=true):=fun⟨n,v⟩ hy=>by
  rcases S.par n (List.of_mem_zip hy).1 with q | q
  ·exact .inl q
  ·exact .inr ⟨q,PySem.W.cellsFrom_some _ _ _ (.inl q)⟩
 refine codeAny_call_function hr.depth (KX _ _ lk) rfl S.co S.gen rfl (PySem.W.codeRec_of KX hcd) (hb _ _ _ _ ?_)
 refine wpAny_newFunctionEnv_cells S.kind hkind fun env he s1 x=> ?_
 subst he
 refine⟨lim.keeps x.toInCall.keep,codeAny_func ?_⟩
 obtain⟨t,ht,hq⟩:=hbody A outer s H vs Q E (hr.deeper _) hsp
 have I:Inv (cxOf CX P w K mg base N qual scope f cdv A outer s H E) [] (start N vs) H s1:=inv_start S hr.hd e0 hl r x
 refine wpAny_mono (ht [] s1 (start N vs) H _ I hq) (fun fl s' hs=> ?_) fun e s' hs=>hs
 have fin:∀ {σ':St} {H':Hp} {v:V} {u:Value},Inv (cxOf CX P w K mg base N qual scope f cdv A outer s H E) [] σ' H' s'->RelV v u->Q v H'->CE outer P w H s Q u s':=
  fun {σ' H' v u} J rv q=>⟨v,H',J.os,J.bare,J.base,J.hok,rv,q⟩
 cases fl with
 | ret u=>
  obtain⟨v,σ',H',J,rv,q⟩:=hs
  exact fin J rv q
 | next=>
  obtain⟨σ',H',J,q⟩:=hs
  exact fin (v:=V.non) (u:=Value.none) J rfl q
 | brk=>
  obtain⟨_,_,_,q⟩:=hs
  exact False.elim q
 | cont=>
  obtain⟨_,_,_,q⟩:=hs
  exact False.elim q
end L2
namespace HT
open PySem PyProof.Rows
section
variable {prog:Program}{w:World}{A:Around}{E:Value->Shared->Prop}{s:Shared}
theorem cat_tup {t b:Addr}{vs ws:List Value}{Q:Value->Shared->Prop}(ht:IsTup s.heap t vs.toArray)(hb:IsTup s.heap b ws.toArray)(hv:vs≠ [])
  (h1:ws= []->Q (.ref t) s) (h2:ws≠ []->Q (.ref s.heap.objs.size) { s with heap:=s.heap.push { cls:=.type "tuple",data:=.seq (vs++ws).toArray } })
  (hsz:vs.length+ws.length<=sizeLine):wpAny (model prog w) A (binaryOp .Add (.ref t) (.ref b)) Q E s:=by
 obtain⟨⟨cls,dd,data,sl⟩,ho,hc,n,hd⟩:=id ht
 obtain⟨⟨cls2,dd2,data2,sl2⟩,ho2,hc2,n2,hd2⟩:=id hb
 simp only at hc hd hc2 hd2
 subst hc hd hc2 hd2
 have e:vs.toArray++ws.toArray=(vs++ws).toArray:=by simp
 by_cases hw:ws= []
 ·exact concat_meets ⟨_,ho,rfl⟩ ⟨_,ho2,rfl⟩ noFill_tuple_add seq_tuple_add PySem.F.slot_tuple_add PySem.F.entry_tuple_add (PySem.F.args_tuple_add_2 _ _)
   (tuple_addW1 t b vs.toArray ws.toArray n n2 dd dd2 sl sl2 (by simpa using hv) (by simp [hw])) ⟨ho,ho2,h1 hw⟩
 ·refine concat_meets ⟨_,ho,rfl⟩ ⟨_,ho2,rfl⟩ noFill_tuple_add seq_tuple_add PySem.F.slot_tuple_add PySem.F.entry_tuple_add (PySem.F.args_tuple_add_2 _ _)
   (tuple_addW2 t b vs.toArray ws.toArray n n2 dd dd2 sl sl2 (by simpa using hv) (by simpa using hw) (by rw [List.size_toArray,List.size_toArray];exact hsz)) ⟨ho,ho2,?_⟩
  rw [e]
  exact h2 hw
def sIx (n d:Nat):Option Int->Nat
 | none=>d
 | some v=>if v<0 then(v+(n:Int)).toNat else min v.toNat n
theorem sIx_none (n d:Nat):sIx n d none=d:=rfl
theorem sIx_nat (n d k:Nat):sIx n d (some (k:Int))=min k n:=by
 show(if (k:Int)<0 then((k:Int)+(n:Int)).toNat else min (k:Int).toNat n)=min k n
 rw [if_neg (by omega),Int.toNat_natCast]
theorem sIx_le (n d:Nat)(hd:d<=n)(o:Option Int):sIx n d o<=n:=by
 cases o with
 | none=>exact hd
 | some v=>
  show(if v<0 then(v+(n:Int)).toNat else min v.toNat n)<=n
  by_cases hv:v<0
  ·rw [if_pos hv];omega
  ·rw [if_neg hv];exact Nat.min_le_right _ _
theorem clip_eq (v:Int)(n d:Nat):(if v<0 then max (v+(n:Int)) 0 else min v (n:Int))=((sIx n d (some v):Nat):Int):=by
 show(if v<0 then max (v+(n:Int)) 0 else min v (n:Int))=(((if v<0 then(v+(n:Int)).toNat else min v.toNat n):Nat):Int)
 by_cases hv:v<0
 ·simp only [if_pos hv];omega
 ·simp only [if_neg hv];omega
theorem adjust_gen (lo hi:Option Int)(n:Nat):Builtin.Slice.sliceAdjust lo hi 1 (n:Int)=(((sIx n 0 lo:Nat):Int),((sIx n n hi:Nat):Int)):=by
 have h1:¬ ((1:Int)<0):=by omega
 unfold Builtin.Slice.sliceAdjust
 simp only [h1,if_false]
 refine Prod.ext ?_ ?_
 ·cases lo with
  | none=>rfl
  | some v=>exact clip_eq v n 0
 ·cases hi with
  | none=>rfl
  | some v=>exact clip_eq v n n
theorem places_gen (i j:Nat):Builtin.Slice.slicePlaces (i:Int) (j:Int) 1=j - i:=by
 unfold Builtin.Slice.slicePlaces
 have h1:(1:Int) > 0:=by omega
 simp only [h1,if_true,Int.ediv_one]
 split <;> omega
theorem slicePart_ {v:Value}{o:Option Int}{Q:Option Int->Shared->Prop}(p:IsPart v o)(h:Q o s):wpAny (model prog w) A (Builtin.Slice.slicePartIndex v) Q E s:=by
 cases p with
 | none=>exact slicePart_none h
 | int i t=>exact slicePart_int h
theorem gj {sl:Addr}{vl vu:Value}{lo hi:Option Int}{n:Nat}{Q:Int×Int×Nat->Shared->Prop}(hs:s.heap.IsSliceOf sl vl vu .none)(pl:IsPart vl lo)(pu:IsPart vu hi)
  (h:Q (((sIx n 0 lo:Nat):Int),1,sIx n n hi - sIx n 0 lo) s):wpAny (model prog w) A (Builtin.Slice.sliceApplied (.ref sl) (pure (n:Int))) Q E s:=by
 obtain⟨os,hos,hcs,hds⟩:=id hs
 unfold Builtin.Slice.sliceApplied Builtin.Slice.sliceFields
 refine wpAny_bind (wpAny_bind (wpAny_field hos hds (x:=vl) rfl (wpAny_bind (wpAny_field hos hds (x:=vu) rfl (wpAny_bind (wpAny_field hos hds (x:=.none) rfl (wpAny_pure ?_)))))))
 refine wpAny_bind (slicePart_none ?_)
 show wpAny _ _ (if ((1:Int) == 0)=true then _ else _) _ _ s
 rw [if_neg (by decide)]
 refine wpAny_bind (slicePart_ pl (wpAny_bind (slicePart_ pu (wpAny_bind (wpAny_pure ?_)))))
 show wpAny _ _ (match Builtin.Slice.sliceAdjust lo hi 1 (n:Int)with | (lo,hi)=>pure (lo,(1:Int),Builtin.Slice.slicePlaces lo hi 1)) _ _ s
 rw [adjust_gen lo hi n]
 show wpAny _ _ (pure (((sIx n 0 lo:Nat):Int),(1:Int),Builtin.Slice.slicePlaces ((sIx n 0 lo:Nat):Int) ((sIx n n hi:Nat):Int) 1)) _ _ s
 rw [places_gen]
 exact wpAny_pure h
theorem pick_gen (xs:Array Value)(i k:Nat):((List.range k).filterMap fun(m:Nat)=>xs[((i:Int)+(m:Int)*1).toNat]?).toArray=((xs.toList.drop i).take k).toArray:=by
 have e:(fun(m:Nat)=>xs[((i:Int)+(m:Int)*1).toNat]?)=fun m=>xs[i+m]?:=by
  funext m
  have:((i:Int)+(m:Int)*1).toNat=i+m:=by omega
  rw [this]
 rw [e]
 have:=pick_run xs i k
 rw [List.filterMap_map]at this
 have e2:((fun x=>xs[x]?)∘fun x=>i+x)=fun m=>xs[i+m]?:=rfl
 rw [e2]at this
 rw [this]
theorem getItem_tuple_cut {t sl:Addr}{items:Array Value}{vl vu:Value}{lo hi:Option Int}{Q:Value->Shared->Prop}(ht:IsTup s.heap t items)(hs:s.heap.IsSliceOf sl vl vu .none)(pl:IsPart vl lo)(pu:IsPart vu hi)
  (hw:¬ (sIx items.size 0 lo=0/\sIx items.size items.size hi=items.size))
  (h:Q (.ref s.heap.objs.size) { s with heap:=s.heap.push { cls:=.type "tuple",data:=.seq ((items.toList.drop (sIx items.size 0 lo)).take (sIx items.size items.size hi - sIx items.size 0 lo)).toArray } })
  (hsz:items.size<=sizeLine):wpAny (model prog w) A (getItem (.ref t) (.ref sl)) Q E s:=by
 have htake:sizeOk (.seq ((items.toList.drop (sIx items.size 0 lo)).take (sIx items.size items.size hi - sIx items.size 0 lo)).toArray):=by
  show((items.toList.drop (sIx items.size 0 lo)).take (sIx items.size items.size hi - sIx items.size 0 lo)).toArray.size<=sizeLine
  rw [List.size_toArray,List.length_take,List.length_drop,Array.length_toList]
  omega
 have hj:sIx items.size items.size hi<=items.size:=sIx_le _ _ (Nat.le_refl _) hi
 obtain⟨os,hos,hcs,hds⟩:=id hs
 have hTs:s.TypeIs (.ref sl) "slice":=⟨os,hos,hcs⟩
 unfold getItem
 try with_reducible refine wpAny_holding ?_
 first | refine wpAny_bind (wpAny_pure ?_) | skip
 refine wpAny_bind (wpAny_sequenceKey ht.typeIs (by decide) ?_)
 refine wpAny_bind (wpAny_callSpecial?_slot (name:=Str.ofString "__getitem__") ht.typeIs PyProof.Rows.slot_tuple_getitem
  (wpAny_call_entry PyProof.Rows.slot_tuple_getitem ht.typeIs entry_tuple_getitem ?_ (args_tuple_getitem _ _)))
 show wpAny _ _ (Builtin.Tuple.tupleItemsOf (.ref t) >>= _) _ _ s
 refine wpAny_bind (tupleItemsOf_ ht ?_)
 refine wpAny_bind (wpAny_typeOf hTs ?_)
 rw [if_pos (by decide)]
 refine wpAny_bind (gj hs pl pu ?_)
 have hno:¬ ((((sIx items.size 0 lo:Nat):Int) == 0&&(1:Int) == 1&&(sIx items.size items.size hi - sIx items.size 0 lo) == items.size)=true):=by
  intro q
  rw [Bool.and_eq_true,Bool.and_eq_true]at q
  have q1:((sIx items.size 0 lo:Nat):Int)=0:=eq_of_beq q.1.1
  have q2:sIx items.size items.size hi - sIx items.size 0 lo=items.size:=eq_of_beq q.2
  exact hw ⟨by omega,by omega⟩
 show wpAny _ _ (if (((sIx items.size 0 lo:Nat):Int) == 0&&(1:Int) == 1&&(sIx items.size items.size hi - sIx items.size 0 lo) == items.size)=true then _ else _) _ _ s
 rw [if_neg hno,pick_gen]
 first
  | exact wpAny_bind (m:=Builtin.Tuple.tupleExact _) (wpAny_newObj_type (wpAny_pure ⟨_,rfl,wpAny_pure h⟩) htake)
  | exact wpAny_bind (m:=Builtin.Tuple.tupleExact _) (wpAny_newObj_type (wpAny_bind (wpAny_pure (wpAny_pure ⟨_,rfl,wpAny_pure h⟩))) htake)
  | exact wpAny_bind (wpAny_bind (m:=Builtin.Tuple.tupleExact _) (wpAny_newObj_type (wpAny_pure (wpAny_pure ⟨_,rfl,wpAny_pure h⟩)) htake))
  | exact wpAny_bind (wpAny_bind (m:=Builtin.Tuple.tupleExact _) (wpAny_newObj_type (wpAny_pure ⟨_,rfl,wpAny_pure h⟩) htake))
end
end HT
namespace L2
open PySem PySem.Spec PyProof.Rows
abbrev TO:=St->Hp->(Option Int->Hp->Prop)->Prop
def PO (X:Cx)(e:Option Expr)(t:TO):Prop:=
 ∀(pins:List (Addr×Obj)) (s:Shared) (σ:St) (H:Hp) (Q:Option Int->Hp->Prop),Inv X pins σ H s->t σ H Q →
  wpAny (model X.prog X.w) X.A (evalPart e X.env) (fun u s'=> ∃o H',Inv X pins σ H' s'/\IsPart u o/\Q o H') X.xe s
def tNoPart:TO:=fun _ H Q=>Q none H
def tPart (t:TE):TO:=fun σ H Q=>t σ H fun x H1=> ∃i,x= .int i/\Q (some i) H1
theorem intsAre_of {ns:List Int}:∀ {us:List Value},Vals (ns.map V.int) us->IntsAre us ns:=by
 induction ns with
 | nil=>intro us r;rw [List.map_nil]at r;cases r;exact .nil
 | cons n ns ih=>
  intro us r
  rw [List.map_cons]at r
  cases r with
  | cons r1 r2=>
   obtain⟨t,e⟩:=r1
   subst e
   exact .cons n t (ih r2)
section
variable {X:Cx}{e:Expr}{te:TE}{lo hi:Option Expr}{tl th:TO}{pos p2:Pos}
theorem po_none:PO X none tNoPart:=by
 intro pins s σ H Q I h
 rw [evalPart_none]
 exact wpAny_pure ⟨none,H,I,.none,h⟩
theorem po_some (h:PE X e te):PO X (some e) (tPart te):=by
 intro pins s σ H Q I hw
 rw [evalPart_some]
 refine bK (h pins s σ H _ I hw) fun u s1 hh_=> ?_
 obtain⟨x,H1,I1,r1,q1⟩:=hh_
 obtain⟨i,rfl,q⟩:=q1
 obtain⟨t,rfl⟩:=r1
 exact⟨some i,H1,I1,.int i t,q⟩
def SlR (X:Cx)(r:V->Option Int->Option Int->Hp->VK->Prop):Prop:=
 ∀(pins:List (Addr×Obj)) (s:Shared) (σ:St) (H:Hp) (x:V) (v vl vu:Value) (lo hi:Option Int) (sl:Addr) (Q:VK),Inv X pins σ H s->RelV x v->s.heap.IsSliceOf sl vl vu .none->IsPart vl lo->IsPart vu hi->r x lo hi H Q →
  ∃T id,typeLookup (.type T) "__getitem__" =pure (some (.builtin id))/\s.TypeIs v T/\wpAny (model X.prog X.w) X.A (getItem v (.ref sl)) (EP X pins σ Q) X.xe s
theorem SlR.or {r r':V->Option Int->Option Int->Hp->VK->Prop}(h:SlR X r)(h':SlR X r'):SlR X (fun x lo hi H Q=>r x lo hi H Q\/r' x lo hi H Q):=by
 intro pins s σ H x v vl vu lo hi sl Q I rx hs pl pu q
 rcases q with q | q
 ·exact h pins s σ H x v vl vu lo hi sl Q I rx hs pl pu q
 ·exact h' pins s σ H x v vl vu lo hi sl Q I rx hs pl pu q
def tSl (r:V->Option Int->Option Int->Hp->VK->Prop)(te:TE)(tl th:TO):TE:=fun σ H Q=>te σ H fun x H1=>tl σ H1 fun l H2=>th σ H2 fun u H3=>r x l u H3 Q
theorem pe_slice {r:V->Option Int->Option Int->Hp->VK->Prop}(hr:SlR X r)(he:PE X e te)(hl:PO X lo tl)(hu:PO X hi th):PE X (.Subscript e (.Slice lo hi none p2) pos) (tSl r te tl th):=by
 intro pins s σ H Q I h
 refine Subscript_ (bK (he pins s σ H _ I h) fun v s1 hh_=> ?_)
 obtain⟨x,H1,I1,r1,q1⟩:=hh_
 refine wpAny_Slice (bK (hl pins s1 σ H1 _ I1 q1) fun vl s2 ⟨l,H2,I2,pl,q2⟩=>bK (hu pins s2 σ H2 _ I2 q2) fun vu s3 hh_=> ?_)
 obtain⟨u,H3,I3,pu,q3⟩:=hh_
 rw [evalPart_none]
 refine wpAny_pure ?_
 have I4:Inv X pins σ H3 { s3 with heap:=s3.heap.push { cls:=.type "slice",data:=.fields #[vl,vu,.none] } }:=I3.kept (t':=s3.toks) fun b ob q=>Heap.get?_push_of_some _ q
 obtain⟨T,id,hT,ht,hg⟩:=hr pins { s3 with heap:=s3.heap.push { cls:=.type "slice",data:=.fields #[vl,vu,.none] } } σ H3 x v vl vu l u s3.heap.objs.size Q I4 r1 (Heap.IsSliceOf.new ..) pl pu q3
 show wpAny (model X.prog X.w) X.A (subscriptTail e (.Slice lo hi none p2) v (.ref s3.heap.objs.size)) (EP X pins σ Q) X.xe { s3 with heap:=s3.heap.push { cls:=.type "slice",data:=.fields #[vl,vu,.none] } }
 exact tail_any (ops:=[.ref s3.heap.objs.size,v]) ht hT hg (by with_unfolding_all rfl)
def cutV (xs:List V)(lo hi:Option Int):List V:=(xs.drop (HT.sIx xs.length 0 lo)).take (HT.sIx xs.length xs.length hi - HT.sIx xs.length 0 lo)
theorem cutV_length (xs:List V)(lo hi:Option Int):(cutV xs lo hi).length<=xs.length:=by
 unfold cutV
 rw [List.length_take,List.length_drop]
 omega
def rSlT (K:PySem.W.Frag):V->Option Int->Option Int->Hp->VK->Prop:=fun x lo hi H Q=> ∃a xs,x= .ref a/\SqT K H a xs ∧
 ¬(HT.sIx xs.length 0 lo=0/\HT.sIx xs.length xs.length hi=xs.length)/\∀ p,H p=none->Q (.ref p) (upd H p (.tup (cutV xs lo hi)))
theorem sl_tup:SlR X (rSlT X.K):=by
 intro pins s σ H x v vl vu lo hi sl Q I rx hs pl pu h
 obtain⟨a,xs,rfl,hx,hw,q⟩:=h
 cases rx
 obtain⟨its,r,ht,hz⟩:=I.tuple hx
 have hlen:its.toArray.size=xs.length:=by rw [List.size_toArray];exact r.length.symm
 refine⟨"tuple",_,PyProof.Rows.slot_tuple_getitem.lookup,ht.typeIs,?_⟩
 refine HT.getItem_tuple_cut ht hs pl pu (by rw [hlen];exact hw) ?_ (by rw [hlen];exact hz)
 rw [hlen]
 refine⟨.ref s.heap.objs.size,_,I.laid (t':=s.toks) (o:=.tup (cutV xs lo hi)) (fun b ob q=>Heap.get?_push_of_some _ q) (Nat.le_refl _) ?_,rfl,q _ (I.hok.fresh (Nat.le_refl _))⟩
 exact⟨Nat.le_trans (cutV_length xs lo hi) hz,_,(r.drop (HT.sIx xs.length 0 lo)).take (HT.sIx xs.length xs.length hi - HT.sIx xs.length 0 lo),IsTup.new _ _⟩
def rCatT (K:PySem.W.Frag):R2:=fun x y H Q=> ∃a b xs ys,x= .ref a/\y= .ref b/\SqT K H a xs/\SqT K H b ys/\xs≠ []/\xs.length+ys.length<=sizeLine ∧
 (ys= []->Q (.ref a) H)/\(ys≠ []->∀ p,H p=none->Q (.ref p) (upd H p (.tup (xs++ys))))
theorem Vals.nil_iff {xs:List V}{us:List Value}(r:Vals xs us):us= [] ↔xs= []:=by
 cases r with
 | nil=>simp
 | cons _ _=>simp
theorem op_catT:OpR X (binaryOp .Add) (rCatT X.K):=by
 intro pins s σ H x y v u Q I rx ry h
 obtain⟨a,b,xs,ys,rfl,rfl,ha,hb,hx,hz,q1,q2⟩:=h
 cases rx
 cases ry
 obtain⟨its,r1,p1,_⟩:=I.tuple ha
 obtain⟨its2,r2,p2,_⟩:=I.tuple hb
 refine HT.cat_tup p1 p2 (fun z=>hx (r1.nil_iff.mp z)) (fun z=>⟨.ref a,H,I,rfl,q1 (r2.nil_iff.mp z)⟩) (fun z=> ?_) (by rw [<-r1.length,<-r2.length];exact hz)
 refine⟨.ref s.heap.objs.size,_,I.laid (t':=s.toks) (o:=.tup (xs++ys)) (fun b ob q=>Heap.get?_push_of_some _ q) (Nat.le_refl _) ?_,rfl,q2 (fun w=>z (r2.nil_iff.mpr w)) _ (I.hok.fresh (Nat.le_refl _))⟩
 exact⟨by rw [List.length_append];exact hz,_,r1.append r2,IsTup.new _ _⟩
end
def ixN (n:Nat)(i:Int):Option Nat:=if 0<=i then(if i<n then some i.toNat else none)else if -(n:Int)<=i then some (i+n).toNat else none
def atI {α:Type}(xs:List α)(i:Int):Option α:=(ixN xs.length i).bind fun j=>xs[j]?
theorem ixN_seq {n:Nat}{i:Int}{j:Nat}(h:ixN n i=some j):seqIndex? i n=some j/\j<n/\-(n:Int)<=i/\i<n:=by
 unfold ixN at h
 by_cases h0:0<=i
 ·rw [if_pos h0]at h
  by_cases h1:i<n
  ·rw [if_pos h1]at h
   have e:i.toNat=j:=Option.some.inj h
   exact⟨by rw [seqIndex_of h0 h1,e],by omega,by omega,h1⟩
  ·rw [if_neg h1]at h;cases h
 ·rw [if_neg h0]at h
  by_cases h1 : -(n:Int)<=i
  ·rw [if_pos h1]at h
   have e:(i+n).toNat=j:=Option.some.inj h
   exact⟨by rw [seqIndex_neg (by omega) h1,e],by omega,h1,by omega⟩
  ·rw [if_neg h1]at h;cases h
theorem atI_get {α:Type}{xs:List α}{i:Int}{v:α}(h:atI xs i=some v):∃ j,seqIndex? i xs.length=some j/\xs[j]? =some v/\j<xs.length/\-(xs.length:Int)<=i/\i<xs.length:=by
 unfold atI at h
 cases e:ixN xs.length i with
 | none=>rw [e]at h;cases h
 | some j=>
  rw [e]at h
  obtain⟨h1,h2,h3,h4⟩:=ixN_seq e
  exact⟨j,h1,h,h2,h3,h4⟩
def PlainIx (b:Expr):Prop:=∀ o i,subscripted b false o i=operate [o,i] (getItem o i)
def IxR (X:Cx)(r:R2):Prop:=
 ∀(value slice:Expr) (pins:List (Addr×Obj)) (s:Shared) (σ:St) (H:Hp) (x y:V) (v u:Value) (Q:VK),Inv X pins σ H s->RelV x v->RelV y u->r x y H Q →
  subscripted slice false v u=operate [v,u] (getItem v u)->wpAny (model X.prog X.w) X.A (subscriptTail value slice v u) (EP X pins σ Q) X.xe s
def MtR (X:Cx)(id:String)(r:V->List V->Hp->VK->Prop):Prop:=
 ∀(pins:List (Addr×Obj)) (s:Shared) (σ:St) (H:Hp) (x:V) (xs:List V) (v:Value) (us:List Value) (Q:VK),Inv X pins σ H s->RelV x v->Vals xs us->r x xs H Q →
  wpAny (model X.prog X.w) X.A (call (.builtin id) (v::us)) (EP X pins σ Q) X.xe s
section
variable {X:Cx}{a b:Expr}{ta tb:TE}{pos:Pos}
theorem IxR.or {r r':R2}(h:IxR X r)(h':IxR X r'):IxR X (fun x y H Q=>r x y H Q\/r' x y H Q):=by
 intro value slice pins s σ H x y v u Q I rx ry q hs
 rcases q with q | q
 ·exact h value slice pins s σ H x y v u Q I rx ry q hs
 ·exact h' value slice pins s σ H x y v u Q I rx ry q hs
def rIxL (K:PySem.W.Frag):R2:=fun x y H Q=> ∃p xs i v,x= .ref p/\y= .int i/\SqL K H p xs/\atI xs i=some v/\Q v H
def rIxT (K:PySem.W.Frag):R2:=fun x y H Q=> ∃p xs i v,x= .ref p/\y= .int i/\SqT K H p xs/\atI xs i=some v/\Q v H
def rIxS:R2:=fun x y H Q=> ∃z i c,x= .str z/\y= .int i/\z.length<=sizeLine/\atI z.cps.toList i=some c/\Q (.str ⟨#[c]⟩) H
theorem ix_list:IxR X (rIxL X.K):=by
 intro value slice pins s σ H x y v u Q I rx ry h hs
 obtain⟨p,xs,i,z,rfl,rfl,hq,he,q⟩:=h
 cases rx
 obtain⟨t,rfl⟩:=ry
 obtain⟨its,r,pl,hz⟩:=I.list hq
 obtain⟨j,h1,h2,h3,h4,h5⟩:=atI_get he
 obtain⟨w,ew,rw'⟩:=r.get h2
 have hl:=r.length
 have hn:=line63
 have fin:EP X pins σ Q w s:=⟨z,H,I,rw',q⟩
 by_cases h0:0<=i
 ·have hj:i.toNat=j:=by
   rw [seqIndex_of h0 h5]at h1
   exact Option.some.inj h1
  exact item_listR pl.isList h0 (by omega) (by rw [hj];simpa using ew) fin hs
 ·have hj:(i+(its.toArray.size:Int)).toNat=j:=by
   rw [seqIndex_neg (by omega) h4]at h1
   rw [List.size_toArray,<-hl]
   exact Option.some.inj h1
  exact subscriptTail_builtinR (x:=w) pl.isList.typeIs slot_list_getitem.lookup
   (wpAny_getItem_list_neg (Q:=fun r s'=>r=w/\EP X pins σ Q r s') pl.isList (by omega) (by rw [List.size_toArray] <;> omega) (by omega) (by rw [hj];simpa using ew) ⟨rfl,fin⟩) hs
theorem ix_tup:IxR X (rIxT X.K):=by
 intro value slice pins s σ H x y v u Q I rx ry h hs
 obtain⟨p,xs,i,z,rfl,rfl,hq,he,q⟩:=h
 cases rx
 obtain⟨t,rfl⟩:=ry
 obtain⟨its,r,pl,hz⟩:=I.tuple hq
 obtain⟨j,h1,h2,h3,h4,h5⟩:=atI_get he
 obtain⟨w,ew,rw'⟩:=r.get h2
 have hl:=r.length
 have hn:=line63
 have fin:EP X pins σ Q w s:=⟨z,H,I,rw',q⟩
 exact subscriptTail_builtinR (x:=w) pl.typeIs slot_tuple_getitem.lookup
  (getItem_tuple (j:=j) (Q:=fun r s'=>r=w/\EP X pins σ Q r s') pl (by omega) (by omega) (by rw [List.size_toArray,<-hl];exact h1) (by simpa using ew) ⟨rfl,fin⟩) hs
theorem ix_str:IxR X rIxS:=by
 intro value slice pins s σ H x y v u Q I rx ry h hs
 obtain⟨z,i,c,rfl,rfl,hz,he,q⟩:=h
 obtain⟨t,rfl⟩:=rx
 obtain⟨t',rfl⟩:=ry
 obtain⟨j,h1,h2,h3,h4,h5⟩:=atI_get he
 have hl:z.cps.toList.length=z.length:=by simp [Str.length]
 rw [hl]at h1 h4 h5
 have hn:=line63
 exact tail_any (typeIs_str s z t) slot_str_getitem.lookup (getItem_str (c:=c) (by
  have e1:decide (i< -(2 ^ 63:Int))=false:=decide_eq_false (by omega)
  have e2:decide (i ≥ 2 ^ 63)=false:=decide_eq_false (by omega)
  rw [e1,e2,Bool.or_false]) (by rw [h1];simpa using h2) ⟨.str ⟨#[c]⟩,H,I.tok _,⟨_,rfl⟩,q⟩) hs
def rIx (K:PySem.W.Frag):R2:=fun x y H Q=>rIxL K x y H Q\/rIxT K x y H Q\/rIxS x y H Q
theorem ix_seq:IxR X (rIx X.K):=ix_list.or (ix_tup.or ix_str)
theorem slice_bounds (lo hi:Option Int)(n:Nat):(sliceBounds lo hi none n).1=((HT.sIx n 0 lo:Nat):Int)/\(sliceBounds lo hi none n).2.1=((HT.sIx n n hi:Nat):Int)/\(sliceBounds lo hi none n).2.2=1:=by
 refine⟨?_,?_,rfl⟩
 ·cases lo with
  | none=>simp [sliceBounds,HT.sIx]
  | some i=>
   simp only [sliceBounds,HT.sIx,Option.getD_none,show(1:Int) > 0 by decide,if_true]
   by_cases h:i<0
   ·simp only [h,if_true] <;> omega
   ·simp only [h,if_false] <;> omega
 ·cases hi with
  | none=>simp [sliceBounds,HT.sIx]
  | some i=>
   simp only [sliceBounds,HT.sIx,Option.getD_none,show(1:Int) > 0 by decide,if_true]
   by_cases h:i<0
   ·simp only [h,if_true] <;> omega
   ·simp only [h,if_false] <;> omega
theorem slicePick_cut (its:List Value)(lo hi:Option Int):slicePick its.toArray lo hi none=((its.drop (HT.sIx its.length 0 lo)).take (HT.sIx its.length its.length hi - HT.sIx its.length 0 lo)).toArray:=by
 obtain⟨h1,h2,h3⟩:=slice_bounds lo hi its.toArray.size
 unfold slicePick
 rw [h1,h2,h3]
 simp only [sliceRange_one,pick_run,List.size_toArray] <;> rfl
def rSlL (K:PySem.W.Frag):V->Option Int->Option Int->Hp->VK->Prop:=fun x lo hi H Q=> ∃a xs,x= .ref a/\SqL K H a xs/\∀ p,H p=none->Q (.ref p) (upd H p (.lst (cutV xs lo hi)))
theorem sl_list:SlR X (rSlL X.K):=by
 intro pins s σ H x v vl vu lo hi sl Q I rx hs pl pu h
 obtain⟨a,xs,rfl,hx,q⟩:=h
 cases rx
 obtain⟨its,r,ht,hz⟩:=I.list hx
 have hlen:=r.length
 refine⟨"list",_,slot_list_getitem.lookup,ht.isList.typeIs,?_⟩
 refine wpAny_getItem_list_slice ht.isList hs pl pu .none (by simp) ?_ (by rw [List.size_toArray] <;> omega)
 rw [slicePick_cut,<-hlen]
 refine⟨.ref s.heap.objs.size,_,I.laid (t':=s.toks) (o:=.lst (cutV xs lo hi)) (fun b ob q=>Heap.get?_push_of_some _ q) (Nat.le_refl _) ?_,rfl,q _ (I.hok.fresh (Nat.le_refl _))⟩
 exact⟨Nat.le_trans (cutV_length xs lo hi) hz,_,0,(r.drop (HT.sIx xs.length 0 lo)).take (HT.sIx xs.length xs.length hi - HT.sIx xs.length 0 lo),Heap.get?_push_size _ rfl⟩
theorem call_len_seq:CallR X (.builtin "len") (fun xs H Q=> ∃p ys,xs= [.ref p]/\(SqL X.K H p ys\/SqT X.K H p ys)/\Q (.int ys.length) H):=by
 intro pins s σ H xs us Q I r h
 obtain⟨p,ys,rfl,hq,q⟩:=h
 obtain⟨u,rfl,rx⟩:=vals1 r
 cases rx
 have hn:=line63
 rcases hq with hq | hq
 ·obtain⟨its,r',pl,hz⟩:=I.list hq
  have hlen:=r'.length
  exact Calls.call_len_list pl.isList (by simp only [List.size_toArray] <;> omega) ⟨.int ys.length,H,I.tok _,⟨s.toks+1,by rw [List.size_toArray,hlen]⟩,q⟩
 ·obtain⟨its,r',pl,hz⟩:=I.tuple hq
  have hlen:=r'.length
  exact len_tuple pl (by simp only [List.size_toArray] <;> omega) ⟨.int ys.length,H,I.tok _,⟨s.toks+1,by rw [List.size_toArray,hlen]⟩,q⟩
theorem call_len_str:CallR X (.builtin "len") (fun xs H Q=> ∃z,xs= [.str z]/\z.length<=sizeLine/\Q (.int z.length) H):=by
 intro pins s σ H xs us Q I r h
 obtain⟨z,rfl,hz,q⟩:=h
 obtain⟨u,rfl,t,rfl⟩:=vals1 r
 have hn:=line63
 exact len_str (by omega) ⟨.int z.length,H,I.tok _,⟨_,rfl⟩,q⟩
theorem CallR.or {f:Value}{r r':List V->Hp->VK->Prop}(h:CallR X f r)(h':CallR X f r'):CallR X f (fun xs H Q=>r xs H Q\/r' xs H Q):=by
 intro pins s σ H xs us Q I rs q
 rcases q with q | q
 ·exact h pins s σ H xs us Q I rs q
 ·exact h' pins s σ H xs us Q I rs q
theorem call_tuple_of:CallR X (.type "tuple") (fun xs H Q=> ∃p ys,xs= [.ref p]/\((SqL X.K H p ys/\∀ l,H l=none->Q (.ref l) (upd H l (.tup ys)))\/(SqT X.K H p ys/\Q (.ref p) H))):=by
 intro pins s σ H xs us Q I r h
 obtain⟨p,ys,rfl,h⟩:=h
 obtain⟨u,rfl,rx⟩:=vals1 r
 cases rx
 rcases h with⟨hq,q⟩ | ⟨hq,q⟩
 ·obtain⟨its,r',pl,hz⟩:=I.list hq
  have hlen:=r'.length
  refine call_tuple_list pl.isList (fun h' kp=> ?_) (by simp only [List.size_toArray] <;> omega)
  have I1:Inv X pins σ H { s with heap:=h' }:=I.kept (t':=s.toks) kp
  have I2:Inv X pins σ (upd H h'.objs.size (.tup ys)) { s with heap:=h'.push { cls:=.type "tuple",data:=.seq its.toArray } }:=
   I1.laid (t':=s.toks) (fun b o e=>Heap.get?_push_of_some _ e) (Nat.le_refl _) (show ObjOk X.prog X.w _ _ _ (.tup ys)from⟨hz,its,r',IsTup.new _ _⟩)
  exact⟨.ref h'.objs.size,_,I2,rfl,q _ (I1.hok.fresh (Nat.le_refl _))⟩
 ·obtain⟨its,r',pl,hz⟩:=I.tuple hq
  exact call_tuple_same pl ⟨.ref p,H,I,rfl,q⟩
def tyV (K:PySem.W.Frag)(T:String)(x:V)(H:Hp):Prop:=match x with
 | .str _=>T= "str"
 | .int _=>T= "int"
 | .ref p=>(T= "list"/\∃ xs,SqL K H p xs)\/(T= "tuple"/\∃ o,K.lookup p=some o/\o.cls= .type "tuple"/\o.dict=none) ∨
   (T= "dict"/\((∃kvs,H p=some (.dK kvs))\/∃ kvs,H p=some (.dT kvs)))\/(T= "set"/\∃ S n,H p=some (.set S n))
 | _=>False
theorem tyV_is {pins:List (Addr×Obj)}{σ:St}{H:Hp}{s:Shared}{T:String}{x:V}{v:Value}(I:Inv X pins σ H s)(r:RelV x v)(ty:tyV X.K T x H) :
  s.TypeIs v T/\∀ a,v= .ref a->∃ ob,s.heap.get? a=some ob/\ob.dict=none:=by
 cases x with
 | str z=>
  obtain⟨t,rfl⟩:=r
  cases (show T= "str" from ty)
  exact⟨typeIs_str s z t,fun _ e=>nomatch e⟩
 | int i=>
  obtain⟨t,rfl⟩:=r
  cases (show T= "int" from ty)
  exact⟨typeIs_int s i t,fun _ e=>nomatch e⟩
 | ref p=>
  cases r
  rcases ty with⟨rfl,xs,hq⟩ | ⟨rfl,o,hk,hc,hd⟩ | ⟨rfl,hk⟩ | ⟨rfl,S,n,hk⟩
  ·obtain⟨its,_,pl,_⟩:=I.list hq
   refine⟨pl.isList.typeIs,fun a e=> ?_⟩
   cases e
   obtain⟨o,n,e,c,hd,_⟩:=pl
   exact⟨o,e,hd⟩
  ·refine⟨⟨o,I.kIn p o hk,hc⟩,fun a e=> ?_⟩
   cases e
   exact⟨o,I.kIn _ o hk,hd⟩
  ·have z:∃ o,s.heap.get? p=some o/\o.ExactDict:=by
    rcases hk with⟨kvs,hk⟩ | ⟨kvs,hk⟩
    ·obtain⟨_,_,_,_,o,_,_,e,ex,_⟩:=I.hok p _ hk
     exact⟨o,e,ex⟩
    ·obtain⟨_,_,_,_,o,_,_,e,ex,_⟩:=I.hok p _ hk
     exact⟨o,e,ex⟩
   obtain⟨o,e,ex⟩:=z
   refine⟨⟨o,e,ex.1⟩,fun a e2=> ?_⟩
   cases e2
   exact⟨o,e,ex.2.1⟩
  ·obtain⟨o,_,_,_,e,ex,_⟩:=I.hok p _ hk
   refine⟨⟨o,e,ex.1⟩,fun a e2=> ?_⟩
   cases e2
   exact⟨o,e,ex.2.1⟩
 | _=>exact False.elim ty
def tBM (K:PySem.W.Frag)(T:String)(r:V->List V->Hp->VK->Prop)(to:TE)(t:TA):TE:=fun σ H Q=>to σ H fun x H1=>tyV K T x H1/\t σ H1 fun xs H2=>r x xs H2 Q
variable {o e:Expr}{es:List Expr}{to:TE}{t:TA}{name:Str}{apos cpos:Pos}{T id:String}{r:V->List V->Hp->VK->Prop}
theorem pe_bm (pa:PlainAttrs T)(slot:Slot T name id)(hty:typeOf (.builtin id)=pure (.type "method_descriptor"))(hm:MtR X id r)(ho:PE X o to)(ha:PA X (e::es) t)
  (hbase:attributeBase o name X.env (eval o X.env)=eval o X.env:=by rfl)
  (hfew:((backTo cpos (starEach (e::es) X.env)).all (fun x=> !x.1)&&(backToKw cpos (keywordEach [] X.env)).all (fun x=>x.1.isSome)
   &&decide ((e::es).length+([]:List Keyword).length+(if ([]:List Keyword).isEmpty then 0 else 1)<30))=true:=by rfl)
  (hline:(apos.endLine == cpos.line)=true:=by rfl) (hs:starEach (e::es) X.env=(false,eval e X.env)::starEach es X.env:=by rfl) (hplain:(backTo cpos (starEach es X.env)).any (·.1)=false:=by rfl) :
  PE X (.Call (.Attribute o name apos) (e::es) [] cpos) (tBM X.K T r to t):=by
 intro pins s σ H Q I h
 refine wpAny_Call_method_late hbase hfew hline rfl (bK (ho pins s σ H _ I h) fun v s1 hh_=> ?_)
 obtain⟨x,H1,I1,r1,ty,q1⟩:=hh_
 obtain⟨h1,h2⟩:=tyV_is I1 r1 ty
 refine⟨T,id,pa,slot,hty,h1,h2,?_⟩
 have hA:=ha cpos pins s1 σ H1 _ I1 q1
 rw [hs]at hA ⊢
 refine Calls.callWith_builtin (by show(false||(backTo cpos (starEach es X.env)).any (·.1))=false;rw [hplain] <;> rfl) (Calls.evalArgs_plain ?_)
 exact bK hA fun us s2 ⟨vs,H2,I2,r2,q2⟩=>hm pins s2 σ H2 x vs v us Q I2 r1 r2 q2
end
def MtM (X:Cx)(id:String)(r:V->List V->Hp->VK->Prop):Prop:=
 ∀(pins:List (Addr×Obj)) (s:Shared) (σ:St) (H:Hp) (x:V) (xs:List V) (v:Value) (us:List Value) (Q:VK),Inv X pins σ H s->RelV x v->Vals xs us->r x xs H Q →
  wpAny (model X.prog X.w) X.A (call (.builtin id) (v::us)) (EP X pins σ Q) X.xe s
theorem Vals.one:∀ {x:V} {us:List Value},Vals [x] us->∃ u,us= [u]/\RelV x u
 | _,_,.cons r .nil=>⟨_,rfl,r⟩
theorem Vals.reverse {xs:List V}{us:List Value}(h:Vals xs us):Vals xs.reverse us.reverse:=by
 induction h with
 | nil=>exact .nil
 | cons r t ih=>rw [List.reverse_cons,List.reverse_cons];exact Vals.append ih (.cons r .nil)
theorem Vals.rep {xs:List V}{us:List Value}(h:Vals xs us):∀ k:Nat,Vals (List.replicate k xs).flatten (List.replicate k us).flatten
 | 0=> .nil
 | k+1=>by
  rw [List.replicate_succ,List.replicate_succ,List.flatten_cons,List.flatten_cons]
  exact Vals.append h (Vals.rep h k)
theorem foldl_rep (its:List Value):∀ (k:Nat) (acc:List Value),
  List.foldl (fun x1 x2=>x1++x2) acc.toArray (List.replicate k its.toArray)=(acc++(List.replicate k its).flatten).toArray
 | 0,acc=>by simp
 | k+1,acc=>by
  have e:acc.toArray++its.toArray=(acc++its).toArray:=by simp
  have e2:(acc++its)++(List.replicate k its).flatten=acc++(List.replicate (k+1) its).flatten:=by
   rw [List.replicate_succ,List.flatten_cons,List.append_assoc]
  rw [<-e2,<-foldl_rep its k (acc++its),<-e,List.replicate_succ,List.foldl_cons]
section
variable {X:Cx}{pins:List (Addr×Obj)}{σ:St}{H:Hp}{s:Shared}{l b:Addr}{xs ys zs:List V}
theorem Inv.lset {its its':List Value}{n:Nat}{f:Array Value->Array Value}{t':Nat}(I:Inv X pins σ H s)(hH:H l=some (.lst xs))
  (e:s.heap.get? l=some { cls:=.type "list",data:=.seq its.toArray n }) (hf:f its.toArray=its'.toArray) (hv:Vals ys its') (hz:ys.length<=sizeLine) :
  Inv X pins σ (upd H l (.lst ys)) { s with heap:=s.heap.update l (Obj.mapSeq f),toks:=t' }:=by
 have q:=PySem.IsL.update e f
 rw [hf]at q
 refine I.write (x:=l) (e:=l) (by rw [hH];exact trivial) (.inl rfl) (fun b' u hb hu=>(Heap.get?_update_other s.heap (Obj.mapSeq f) (Ne.symm hb)).trans hu) ⟨_,q⟩ ?_
 exact⟨hz,its',_,hv,q⟩
theorem Inv.lnew {its:List Value}{t':Nat}(I:Inv X pins σ H s)(hv:Vals ys its)(hz:ys.length<=sizeLine) :
  Inv X pins σ (upd H s.heap.objs.size (.lst ys)) { s with heap:=s.heap.push { cls:=.type "list",data:=.seq its.toArray },toks:=t' }:=
 I.laid (fun _ _ q=>Heap.get?_push_of_some _ q) (Nat.le_refl _) ⟨hz,its,0,hv,Heap.get?_push_size _ rfl⟩
theorem Inv.fresh (I:Inv X pins σ H s):H s.heap.objs.size=none:=I.hok.fresh (Nat.le_refl _)
theorem Inv.lstM (I:Inv X pins σ H s)(hH:H l=some (.lst xs)):xs.length<=sizeLine/\∃ (its:List Value) (n:Nat),Vals xs its/\xs.length=its.length/\s.heap.get? l=some { cls:=.type "list",data:=.seq its.toArray n }:=by
 obtain⟨z,its,n,r,e⟩:=I.hok l _ hH
 exact⟨z,its,n,r,r.length,e⟩
theorem notLongL {n:Nat}(h:n<=sizeLine):Builtin.List.listTooLong n=false:=by
 unfold Builtin.List.listTooLong
 exact decide_eq_false (by omega)
end
section
variable {X:Cx}
def rAppend:V->List V->Hp->VK->Prop:=fun x vs H Q=> ∃l xs y,x= .ref l/\vs= [y]/\H l=some (.lst xs)/\xs.length<sizeLine/\Q .non (upd H l (.lst (xs++ [y])))
theorem mt_append:MtM X "list.append" rAppend:=by
 intro pins s σ H x vs v us Q I rx rv h
 obtain⟨l,xs,y,rfl,rfl,hH,hz,q⟩:=h
 cases rx
 obtain⟨u,rfl,ru⟩:=rv.one
 obtain⟨z,its,n,r,hl,e⟩:=I.lstM hH
 refine call_meets F.slot_list_append ⟨_,e,rfl⟩ F.entry_list_append (F.args_list_append_2 _ _) (PySem.list_append l its.toArray n u (by rw [List.size_toArray];omega)) ⟨e,?_⟩
 refine⟨.non,_,I.lset (its':=its++ [u]) hH e (by simp) (r.append (.cons ru .nil)) ?_,rfl,q⟩
 rw [List.length_append,List.length_singleton]
 omega
def rExtend:V->List V->Hp->VK->Prop:=fun x vs H Q=> ∃l b xs zs,x= .ref l/\vs= [.ref b]/\H l=some (.lst xs)/\H b=some (.lst zs)/\xs.length+zs.length<=sizeLine/\Q .non (upd H l (.lst (xs++zs)))
theorem mt_extend:MtM X "list.extend" rExtend:=by
 intro pins s σ H x vs v us Q I rx rv h
 obtain⟨l,b,xs,zs,rfl,rfl,hH,hB,hz,q⟩:=h
 cases rx
 obtain⟨u,rfl,ru⟩:=rv.one
 cases ru
 obtain⟨z,its,n,r,hl,e⟩:=I.lstM hH
 obtain⟨z2,its2,n2,r2,hl2,e2⟩:=I.lstM hB
 have hsz:its.toArray.size+its2.toArray.size<=sizeLine:=by rw [List.size_toArray,List.size_toArray];omega
 have hlong:¬ (!its.toArray.isEmpty&&Builtin.List.listTooLong (its.toArray.size+its2.toArray.size))=true:=by
  rw [notLongL hsz,Bool.and_false]
  exact Bool.false_ne_true
 refine call_meets F.slot_list_extend ⟨_,e,rfl⟩ F.entry_list_extend (F.args_list_extend_2 _ _)
  (AutoSeq1.list_extend_list_list_0 l its.toArray n b its2.toArray n2 hlong (by rw [List.size_toArray];omega) (by omega)) ⟨e,e2,?_⟩
 refine⟨.non,_,I.lset (its':=its++its2) hH e (by simp) (r.append r2) ?_,rfl,q⟩
 rw [List.length_append]
 omega
def rCat:R2:=fun x y H Q=> ∃l b xs zs,x= .ref l/\y= .ref b/\H l=some (.lst xs)/\H b=some (.lst zs)/\xs.length+zs.length<=sizeLine/\∀ p,H p=none->Q (.ref p) (upd H p (.lst (xs++zs)))
theorem op_cat:OpR X (binaryOp .Add) rCat:=by
 intro pins s σ H x y v u Q I rx ry h
 obtain⟨l,b,xs,zs,rfl,rfl,hH,hB,hz,q⟩:=h
 cases rx
 cases ry
 obtain⟨z,its,n,r,hl,e⟩:=I.lstM hH
 obtain⟨z2,its2,n2,r2,hl2,e2⟩:=I.lstM hB
 refine PySem.P.add_list e e2 ?_ (by rw [List.size_toArray,List.size_toArray];omega)
 have ea:its.toArray++its2.toArray=(its++its2).toArray:=by simp
 rw [ea]
 exact⟨.ref _,_,I.lnew (t':=s.toks) (r.append r2) (by rw [List.length_append];omega),rfl,q _ I.fresh⟩
def rRep:R2:=fun x y H Q=> ∃l k xs,x= .ref l/\y= .int k/\H l=some (.lst xs)/\-(2 ^ 63)<=k/\k<2 ^ 63/\xs.length*k.toNat<=sizeLine ∧
 ∀p,H p=none->Q (.ref p) (upd H p (.lst (List.replicate k.toNat xs).flatten))
theorem len_rep {α:Type}(xs:List α)(k:Nat):(List.replicate k xs).flatten.length=k*xs.length:=by
 induction k with
 | zero=>simp
 | succ k ih=>rw [List.replicate_succ,List.flatten_cons,List.length_append,ih,Nat.succ_mul,Nat.add_comm]
theorem op_rep:OpR X (binaryOp .Mult) rRep:=by
 intro pins s σ H x y v u Q I rx ry h
 obtain⟨l,k,xs,rfl,rfl,hH,h1,h2,hz,q⟩:=h
 cases rx
 obtain⟨t,rfl⟩:=ry
 obtain⟨z,its,n,r,hl,e⟩:=I.lstM hH
 have hlen:its.toArray.size*k.toNat<=sizeLine:=by rw [List.size_toArray,<-hl];exact hz
 have hcap:¬ its.toArray.size*k.toNat > (2 ^ 63 - 1) / 8:=by
  have:(sizeLine:Nat)<=(2 ^ 63 - 1) / 8:=by decide
  omega
 have hfit:¬ (!Builtin.List.listFitsIndex k)=true:=by
  rw [fitsIndex_both h1 h2]
  exact Bool.false_ne_true
 have hlong:¬ Builtin.List.listTooLong (its.toArray.size*k.toNat)=true:=by
  rw [notLongL hlen]
  exact Bool.false_ne_true
 have hnew:List.foldl (fun x1 x2=>x1++x2) #[] (List.replicate (if its.toArray.isEmpty=true then 0 else k.toNat) its.toArray)=(List.replicate k.toNat its).flatten.toArray:=by
  have f0:∀ m:Nat,List.foldl (fun x1 x2=>x1++x2) #[] (List.replicate m its.toArray)=(List.replicate m its).flatten.toArray:=fun m=>by
   have:=foldl_rep its m []
   rw [List.nil_append]at this
   exact this
  rw [f0]
  cases its with
  | nil=>simp
  | cons a r'=>rw [if_neg (by simp)]
 refine wpAny_binaryOp_repeat_ref (T:="list") (U:="int") (by decide) ⟨_,e,rfl⟩ (fun s'=>typeIs_int s' k t) noFill_list_mul F.fills_int_mul F.slot_int_rmul repeat_list F.slot_int_index.lookup
  (call_meets F.slot_int_rmul (typeIs_int s k t) F.entry_int_rmul (F.args_int_rmul_2 _ _) (int___rmul___int_list k t l its.toArray n)
   ⟨e,rfl,⟨_,e,rfl⟩,call_meets F.slot_list_mul ⟨_,e,rfl⟩ F.entry_list_mul (F.args_list_mul_2 _ _) (AutoListH.list___mul___list_int_3 l its.toArray n k t hfit hcap hlong) ⟨e,?_⟩⟩)
 rw [hnew]
 exact⟨.ref _,_,I.lnew (t':=s.toks) (r.rep k.toNat) (by rw [len_rep,Nat.mul_comm];exact hz),rfl,q _ I.fresh⟩
end
end L2
namespace Att
open PySem PySem.W PySem.Calls PyProof.Rows
theorem ints_of_wellAll {P:Params}{h:Heap}:∀ (ns:List Int) (vs:List Value),WellAll P h vs (ns.map WData.int)->IntsAre vs ns:=by
 intro ns
 induction ns with
 | nil=>
  intro vs w
  rw [List.map_nil]at w
  cases w
  exact .nil
 | cons n ns ih=>
  intro vs w
  rw [List.map_cons]at w
  cases w with
  | cons a b=>
   cases a
   exact .cons _ _ (ih _ b)
theorem script_of {l:OpenLaw}{n:Nat}(hn:l.most=some n){P:Params}{h:Heap}{args:List WData}{vals:List Value}
  (hpre:l.row.toRowW.claim.pre args=true) (hwl:WellAll P h vals args) :
  ∃a vs ns,vals= [Value.ref a]/\args= [WData.list (ns.map WData.int)]/\h.get? a=some { cls:=.type "list",data:=.seq vs.toArray }/\IntsAre vs ns/\ns.length<=n:=by
 have hsh:WShape.hasAll [] args [.list .int] =true:=(pre_splitW hpre).1
 have hc:l.pre.holds [] { args:=args }=true:=(pre_splitW hpre).2
 obtain⟨d,r,rfl,h1,h2⟩:=hasAllW_cons hsh
 obtain rfl:=hasAllW_nil h2
 obtain⟨xs,rfl,h3⟩:=hasW_list h1
 obtain⟨ns,rfl⟩:=items_int h3
 have hlen:ns.length<=n:=by
  unfold OpenLaw.pre at hc
  have h4:(WTm.not (.lt (.lit (.int (n:Int))) (.len (.arg 0)))).holds [] { args:=[.list (ns.map .int)] }=true:=by
   have h4:=(holds_andW hc).1
   rw [hn]at h4
   exact h4
  have h5:=condW_of h4 (w_not (w_lt w_lit (w_len_list (w_arg rfl))))
  rw [List.length_map]at h5
  refine Nat.le_of_not_lt fun q=> ?_
  have q':(n:Int)<((ns.length:Nat):Int):=by omega
  first
   | (rw [decide_eq_true q']at h5;exact absurd h5 (by decide))
   | (simp at h5;omega)
 cases hwl with
 | cons w1 w2=>
  cases w2
  cases w1 with
  | list ho hall=>exact⟨_,_,ns,rfl,rfl,ho,ints_of_wellAll ns _ hall,hlen⟩
theorem post_true (l:OpenLaw)(args:List WData):l.row.toRowW.claim.post args (.bool true) args=true:=
 postW_of (r:=l.row.toRowW) (X:=(true == true))
  (show WShape.has [] (.bool true) .bool=true by first | rfl | decide | simp [WShape.has,WShape.arms,WShape.armsAll])
  (show(WTm.eq .res (.lit (.bool true))).value [] { args:=args,res:=some (.bool true),after:=args }=some (.bool (true == true))from w_eq_bool (w_res rfl) w_lit) rfl
theorem attach_call {l:OpenLaw}{n:Nat}{q:Program}{loose:List Str}{XP:(Str->Option Value)->Heap->Prop}{YP:World->Heap->Prop}{d:DefRec}
  (hn:l.most=some n) (hdf:d.params.defaults= [])
  (call:∀ (w:World) (s₀ s₁:Shared) (mg mb:Str->Option Value) (fa:Addr) (o:Obj) (pm cd doc:Value) (a:Addr) (vs:List Value) (ns:List Int),
   Ground q loose [] XP w s₀ mg mb s₁.heap->YP w s₁.heap →
   s₁.heap.get? fa=some o->o.data= .func (docDef d.name d.params d.body d.scope pm cd doc)->s₁.heap.CodeRec cd d.name->mg d.name=some (.ref fa) →
   s₁.heap.get? a=some { cls:=.type "list",data:=.seq vs.toArray }->IntsAre vs ns->ns.length<=n->s₁.gens= #[] →
   codeAny (model l.prog w) callerA (.call (.ref fa) ⟨[.ref a],[]⟩) (fun r s'=>r= .ok (.ret (.bool true))/\OldK s₁.heap s'.heap/\s'.os=s₁.os/\AllBare s'.gens) s₁) :
  WalkO q loose XP YP l.row.toRowW d [] (fun f vs=>PySem.call f vs):=by
 intro w s₀ s₁ mg mb G Y fa o pm cd doc dV kV ho hd hcd hD hmg hg args vals as hpre hlay hrd hwl hlo
 obtain rfl:dV= .none:=Dflts.none hD hdf
 obtain rfl:kV= .none:=Dflts.noKw hD
 obtain⟨a,vs,ns,rfl,rfl,hobj,hints,hlen⟩:=script_of hn hpre hwl
 refine enter_call (codeAny_mono (call w s₀ s₁ mg mb fa o pm cd doc a vs ns G Y ho (fd_plain hd) hcd hmg hobj hints hlen hg) fun r s' hq=> ?_)
 obtain⟨rfl,h2,h3,h4⟩:=hq
 exact⟨.inl ⟨.bool true,.bool true,[],rfl,fun _=>rfl,.bool true,post_true l _,fun _=>⟨List.Pairwise.nil,fun _ hm=>(nomatch hm)⟩⟩,h2,h3,h4⟩
end Att
namespace L2
open PySem PySem.Spec PyProof.Rows
theorem vals_ints:∀ {vs:List Value} {ns:List Int},IntsAre vs ns->Vals (ns.map V.int) vs
 | _,_,.nil=> .nil
 | _,_,.cons n t h=> .cons ⟨t,rfl⟩ (vals_ints h)
def Only (H:Hp):Prop:=∀ b,H b=none\/∃ o xs,H b=some (.frz o (.lst xs))
theorem law_call {P:Program}{w:World}{K:PySem.W.Frag}{mg mb:Str->Option Value}{CX:CXT}{k:Nat}{fa a:Addr}{fd:FuncData}{x:Str}{sp:Sp}{s₁:Shared}{vs:List Value}{ns:List Int}
  (KX:K.In s₁.heap) (hns:s₁.heap.Ns mainGlobals mg) (hb:s₁.heap.Ns builtinsNs mb) (hbb:∀ x:Str,x≠ "__name__"->mb x=bootBuiltins x) (hlim:s₁.heap.NoLimit) (hg:s₁.gens= #[])
  (ha:s₁.heap.get? a=some { cls:=.type "list",data:=.seq vs.toArray }) (hi:IntsAre vs ns) (hl:ns.length<=sizeLine) (hr:Room k callerA)
  (F:∀ base:Heap,K.In base->base.Ns mainGlobals mg->FnOk P w K mg base CX k fa fd [x] sp) (hbind:∀ (s:Shared) (u:Value),BindsTo s fd ⟨[u],[]⟩ [(x,u)])
  (hsp:∀ H:Hp,Only H->SqL K H a (ns.map V.int)->sp [.ref a] H (fun v _=>v= .bl true) fun _ _ _=>False)
  (hCX:∀ H e s',CX [] H s₁ (fun _ _ _=>False) e s'->False) :
  codeAny (model P w) callerA (.call (.ref fa) ⟨[.ref a],[]⟩) (fun r s'=>r= .ok (.ret (.bool true))/\OldK s₁.heap s'.heap/\s'.os=s₁.os/\AllBare s'.gens) s₁:=by
 have rv:=vals_ints hi
 have lenV:=hi.length
 -- from an abstract heap in which nothing but the script may be tracked
 have core:∀ H:Hp,Only H->SqL K H a (ns.map V.int)->HOk P w H s₁.heap->(∀b,H b≠none->b=a)->(H a≠none->K.lookup a=none) →
   codeAny (model P w) callerA (.call (.ref fa) ⟨[.ref a],[]⟩) (fun r s'=>r= .ok (.ret (.bool true))/\OldK s₁.heap s'.heap/\s'.os=s₁.os/\AllBare s'.gens) s₁:=by
  intro H hO hS hok hA hK
  have base_of:∀ {b:Addr} {o:Obj},s₁.heap.get? b=some o->H b=none->(hidT s₁.heap H).get? b=some o:=fun e n=>hidT_get e n
  have noA:∀ {b:Addr} {o:Obj} {es:Array DictEntry} {ep:Nat},s₁.heap.get? b=some o->o.data= .dict es ep->H b=none:=fun {b o es ep} e d=>by
   cases q:H b with
   | none=>rfl
   | some u=>
    have e':b=a:=hA b (by rw [q];simp)
    subst e'
    rw [ha]at e;cases e
    have d':Data.seq vs.toArray _=Data.dict es ep:=d
    cases d'
  have nsK:∀ {b:Addr} {m:Str->Option Value},s₁.heap.Ns b m->(hidT s₁.heap H).Ns b m:=fun {b m} ⟨o,es,ep,e,d,r⟩=>⟨o,es,ep,base_of e (noA e d),d,r⟩
  have hKb:K.In (hidT s₁.heap H):=fun b o e=>base_of (KX b o e) (by
   cases q:H b with
   | none=>rfl
   | some u=>
    have e':b=a:=hA b (by rw [q];simp)
    subst e'
    rw [hK (by rw [q];simp)]at e;cases e)
  have hM:Mod K mg (hidT s₁.heap H):=⟨hKb,nsK hns,⟨mb,nsK hb,hbb⟩,let ⟨mc,h1,h2⟩:=hlim;⟨mc,nsK h1,h2⟩⟩
  have e0:Env0 P w K mg (hidT s₁.heap H) callerA [] s₁ H:=⟨rfl,hM,fun b o e=>of_hidT e,Nat.le_of_eq (hidT_size _ _),trivial,fun b hb=>absurd (show b∈([]:List Addr)from hb) (by simp),hok,.of_eq hg⟩
  refine codeAny_mono ((F _ hKb (nsK hns)).run callerA [] s₁ H ⟨[.ref a],[]⟩ [.ref a] [.ref a] _ _ hr e0 (hbind s₁ (.ref a)) (.cons rfl .nil) (hsp H hO hS)) fun r s' h=> ?_
  cases r with
  | error e=>exact(hCX H e s' h).elim
  | ok fl=>
   cases fl with
   | next=>exact False.elim h
   | brk=>exact False.elim h
   | cont=>exact False.elim h
   | ret u=>
    obtain⟨v,H',os,bare,un,hok',r',q⟩:=h
    have q':v= .bl true:=q
    subst q'
    obtain rfl:u=Value.bool true:=r'
    refine⟨rfl,OldK.of_keep fun b o e=> ?_,os,bare⟩
    cases q:H b with
    | none=>exact un.keep b o e q (by intro z;exact absurd (show b∈([]:List Addr)from z) (by simp)) (by simp)
    | some u=>
     rcases hO b with z | ⟨ob,xs,z⟩
     ·rw [q]at z;cases z
     ·have z2:=un.frzs b ob _ z
      obtain⟨e1,_⟩:=hok b _ z
      obtain⟨e2,_⟩:=hok' b _ z2
      rw [e]at e1;cases e1
      exact e2
 cases hk:K.lookup a with
 | some o=>
  -- the script is one of the module's own objects
  have e:=KX a o hk
  rw [ha]at e
  cases e
  refine core (fun _=>none) (fun _=> .inl rfl) (.inr ⟨_,vs.toArray,_,hk,rfl,rfl,rfl,by rw [List.size_toArray,lenV];exact hl,by simpa using rv⟩) (fun b u z=>by have z':(none:Option HO)=some u:=z;cases z') (fun b z=>absurd rfl z) fun z=>absurd rfl z
 | none=>
  refine core (fun b=>if b=a then some (.frz { cls:=.type "list",data:=.seq vs.toArray } (.lst (ns.map V.int)))else none) (fun b=> ?_) (.inl (.inr ⟨{ cls:=.type "list",data:=.seq vs.toArray },if_pos rfl⟩)) (fun b u z=> ?_) (fun b z=> ?_) fun _=>hk
  ·by_cases hb:b=a
   ·exact .inr ⟨_,_,if_pos hb⟩
   ·exact .inl (if_neg hb)
  ·by_cases hb:b=a
   ·have z':=(if_pos hb).symm.trans z
    cases z'
    subst hb
    exact⟨ha,by rw [List.length_map];exact hl,vs,_,rv,ha⟩
   ·have z':=(if_neg hb).symm.trans z
    cases z'
  ·by_cases hb:b=a
   ·exact hb
   ·exact absurd (if_neg hb) z
def gH (s:Stmt):Arguments:=match s with
 | .FunctionDef _ a _ _ _ _ _ _ _ _=>a
 | _=> { posonlyargs:=[],args:=[],vararg:=none,kwonlyargs:=[],kw_defaults:=[],kwarg:=none,defaults:=[] }
def cA (s:Stmt):List Stmt:=match s with
 | .FunctionDef _ _ b _ _ _ _ _ _ _=>b
 | _=> []
def aj (s:Stmt):Scope:=match s with
 | .FunctionDef _ _ _ _ _ _ sc _ _ _=>sc
 | _=> { kind:=.function,names:=[],isGenerator:=false,isCoroutine:=false }
abbrev CX0:CXT:=fun _ _ _ _ _ _=>False
abbrev E0:XK:=fun _ _ _=>False
theorem pass0 {X:Cx}:Passes CX0 X E0:=fun _ _ _ _ _ _ _ h=>h.elim
structure Fun (K:PySem.W.Frag)(x qual:Str)(st:Stmt)(f:Addr)(fd:FuncData):Prop where
 ex:∃ (oc:Value) (od:Option Addr) (kV doc pm:Value) (an:Option Addr) (cdv ct:Value) (osl:Array (Option Value)),
  fd=PySem.W.fnOf x qual (gH st) (cA st) (aj st) .none kV doc pm an cdv ct/\K.lookup f=some ⟨oc,od,.func fd,osl⟩/\PySem.W.codeIn K cdv qual=true
 kp:PySem.W.keepIn K (.ref f)=true
section
variable {P:Program}{w:World}{K:PySem.W.Frag}{mg:Str->Option Value}{base:Heap}
theorem Fun.ok {x qual:Str}{st:Stmt}{f:Addr}{fd:FuncData}{N ps:List Str}{k:Nat}{sp:Sp}(F:Fun K x qual st f fd)(S:aB N ps (aj st))(len:∀ vs H Q E,sp vs H Q E->vs.length=ps.length)
  (hbody:∀ (cdv:Value) (A:Around) (outer:List Env) (s:Shared) (H:Hp) (vs:List V) (Q:VK) (E:XK),Room k (A.deeper (envOfC qual (aj st) s.heap.objs.size f cdv))->sp vs H Q E →
   ∃t,PSs (cxOf CX0 P w K mg base N qual (aj st) f cdv A outer s H E).nox (cA st) t/\t { nx:=fun _ H'=>Q .non H',rt:=Q } (start N vs) H):FnOk P w K mg base CX0 (k+1) f fd ps sp:=by
 obtain⟨oc,od,kV,doc,pm,an,cdv,ct,osl,rfl,lk,hcd⟩:=F.ex
 refine fn_of lk hcd S len fun A outer s H vs Q E hr hsp=> ?_
 obtain⟨t,h,q⟩:=hbody cdv A outer s H vs Q E hr hsp
 exact⟨t,h.nox,q⟩
theorem Fun.binds {x qual:Str}{st:Stmt}{f:Addr}{fd:FuncData}{ps:List Str}(F:Fun K x qual st f fd)
  (h:∀ (kV doc pm:Value) (an:Option Addr) (cdv ct:Value) (us:List Value),us.length=ps.length->bindArgs (PySem.W.fnOf x qual (gH st) (cA st) (aj st) .none kV doc pm an cdv ct) ⟨us,[]⟩=pure (ps.zip us)):Binds K fd ps []:=by
 obtain⟨oc,od,kV,doc,pm,an,cdv,ct,osl,rfl,lk,hcd⟩:=F.ex
 exact .all (h kV doc pm an cdv ct)
theorem fun_mk {x qual:Str}{st:Stmt}{f:Addr}{oc:Value}{od an:Option Addr}{osl:Array (Option Value)}{kV doc pm cdv ct:Value}(l:K.lookup f=some ⟨oc,od,.func (PySem.W.fnOf x qual (gH st) (cA st) (aj st) .none kV doc pm an cdv ct),osl⟩)
  (c:PySem.W.codeIn K cdv qual=true) (k:PySem.W.keepIn K (.ref f)=true):Fun K x qual st f (PySem.W.fnOf x qual (gH st) (cA st) (aj st) .none kV doc pm an cdv ct):=⟨⟨oc,od,kV,doc,pm,an,cdv,ct,osl,rfl,l,c⟩,k⟩
end
section
variable {X:Cx}
theorem pv (i:Nat){x:Str}{pos:Pos}(hN:X.N[i]? =some x:=by rfl)(hv:Vis X.env.scope x:=by first | exact Or.inl rfl | exact Or.inr (Or.inl rfl) | exact Or.inr (Or.inr rfl))(hd:(x == ("__debug__" : Str))=false:=by decide)
  (hcd:(x == ("__classdict__" : Str))=false:=by decide):PE X (.Name x pos) (tVar i):=gy hN hv hd hcd
end
theorem iteF {A B:Prop}(h:B):if false=true then A else B:=by
 rw [if_neg Bool.false_ne_true]
 exact h
theorem iteT {A B:Prop}(h:A):if true=true then A else B:=by
 rw [if_pos rfl]
 exact h
def Same (H H':Hp):Prop:=∀ b o,H b=some o->H' b=some o
theorem Same.refl (H:Hp):Same H H:=fun _ _ h=>h
theorem Same.trans {H H1 H2:Hp}(a:Same H H1)(b:Same H1 H2):Same H H2:=fun c o h=>b c o (a c o h)
theorem closure_go {env:Env}:∀ (names:List (Str×NameKind)) (acc:List (Str×Addr)),
  (∀x,(x,NameKind.free)∈names->∃ c,env.cells.lookup x=some c) →
  (∀x c,acc.lookup x=some c->env.cells.lookup x=some c) →
  ∃cl,(forIn (m:=Sem) names acc (fun x cs=>(if (x.2 == NameKind.free)=true then do let a <-cellOf env x.1;pure (ForInStep.yield ((x.1,a)::cs))else pure (ForInStep.yield cs))))=pure cl ∧
   (∀x c,cl.lookup x=some c->env.cells.lookup x=some c) ∧
   (∀x,(x,NameKind.free)∈names->∃ c,cl.lookup x=some c)/\(∀x c,acc.lookup x=some c->∃ c',cl.lookup x=some c')
 | [],acc,_,h=>⟨acc,rfl,h,fun x hx=>by simp at hx,fun x c e=>⟨c,e⟩⟩
 | (n,k)::r,acc,hf,h=>by
  by_cases hk:k=NameKind.free
  ·subst hk
   obtain⟨c,hc⟩:=hf n (by simp)
   have h':∀ x c',((n,c)::acc).lookup x=some c'->env.cells.lookup x=some c':=fun x c' e=>by
    rw [List.lookup_cons]at e
    cases q:x == n with
    | true=>
     rw [q]at e
     have e2:c=c':=Option.some.inj e
     have e3:x=n:=by simpa using q
     rw [<-e2,e3];exact hc
    | false=>rw [q]at e;exact h x c' e
   obtain⟨cl,e1,e2,e3,e4⟩:=closure_go r ((n,c)::acc) (fun x hx=>hf x (List.mem_cons_of_mem _ hx)) h'
   refine⟨cl,?_,e2,fun x hx=> ?_,fun x c' e=> ?_⟩
   ·rw [List.forIn_cons]
    simp only [beq_self_eq_true,if_true,cellOf,hc,pure_bind]
    exact e1
   ·rcases List.mem_cons.mp hx with z | z
    ·have z1:x=n:=by injection z
     subst z1
     exact e4 x c (by simp [List.lookup_cons])
    ·exact e3 x z
   ·cases q:x == n with
    | true=>exact e4 x c (by simp [List.lookup_cons,q])
    | false=>exact e4 x c' (by simp [List.lookup_cons,q,e])
  ·have hb:(k == NameKind.free)=false:=by simpa using hk
   obtain⟨cl,e1,e2,e3,e4⟩:=closure_go r acc (fun x hx=>hf x (List.mem_cons_of_mem _ hx)) h
   refine⟨cl,?_,e2,fun x hx=> ?_,e4⟩
   ·rw [List.forIn_cons]
    simp only [hb,Bool.false_eq_true,if_false,pure_bind]
    exact e1
   ·rcases List.mem_cons.mp hx with z | z
    ·have z1:NameKind.free=k:=by injection z
     exact absurd z1.symm hk
    ·exact e3 x z
theorem closure_ok {env:Env}{scope:Scope}(hf:∀ x,(x,NameKind.free)∈scope.names->∃ c,env.cells.lookup x=some c) :
  ∃cl,closureFor scope env=pure cl/\(∀x c,cl.lookup x=some c->env.cells.lookup x=some c)/\(∀x,(x,NameKind.free)∈scope.names->∃ c,cl.lookup x=some c):=by
 obtain⟨cl,e1,e2,e3,_⟩:=closure_go scope.names [] hf (fun x c e=>by simp at e)
 refine⟨cl,?_,e2,e3⟩
 unfold closureFor
 refine Eq.trans ?_ (congrArg (fun z=>z >>= pure) e1|>.trans (by simp))
 rfl
theorem compLoop_any {pr:Program}{wd:World}{Ar:Around}{Rz:Result->Shared->Prop}{s0:Shared}{el tg it0:Expr}{cs:List Expr}{sc:Scope}{ps:Pos}{itv av:Value}{ev:Env}(W:Nat->Shared->Prop)
  (go:∀ k st,W k st->wpAny (model pr wd) Ar (pyNext itv) (fun r s1=>match r with
   | none=>Rz (.ok .next) s1
   | some v=>wpAny (model pr wd) Ar (letOwnedTupleGo tg itv v) (fun _ s2=>wpAny (model pr wd) Ar (assign tg ev v) (fun _ s3=>
     wpAny (model pr wd) Ar (forIn cs true fun c b=>if b=true then do let z <-isTrue c ev (eval c ev);pure (ForInStep.yield z)else pure (ForInStep.yield b)) (fun z s4=>
      if z=true then wpAny (model pr wd) Ar (eval el ev) (fun y s5=>
       wpAny (model pr wd) Ar (call (.builtin "list.append") [av,y]) (fun _ s6=> ∃m,m<k/\W m s6) (fun _ _=>False) s5) (fun _ _=>False) s4
      else ∃m,m<k/\W m s4) (fun _ _=>False) s3) (fun _ _=>False) s2) (fun _ _=>False) s1) (fun _ _=>False) st)
  (k:Nat) (hk:W k s0):codeAny (model pr wd) Ar (.compLoop (.ListComp el [⟨tg,it0,cs,0⟩] sc ps) 0 itv av ev) Rz s0:=by
 refine codeAny_loop rfl W (fun k st hw=> ?_) k hk
 show wpAny (model pr wd) Ar ((compTurn (.ListComp el [⟨tg,it0,cs,0⟩] sc ps) 0 itv av ev).onRaise (fun z=>do noteFrame z ev;theTreesLotGoes z)) _ _ st
 refine wpAny_noted ?_
 rw [compTurn_list]
 have no:∀ {α:Type} {t:Sem α} {Q Q':α->Shared->Prop} {E':Value->Shared->Prop} {x:Shared},wpAny (model pr wd) Ar t Q (fun _ _=>False) x->(∀y z,Q y z->Q' y z)->wpAny (model pr wd) Ar t Q' E' x:=fun h f=>wpAny_mono h f fun _ _ z=>z.elim
 refine wpAny_bind (wpAny_standAt (wpAny_bind (no (go k st hw) fun r s1 g1=> ?_)))
 cases r with
 | none=>exact wpAny_pure g1
 | some v=>
  refine wpAny_bind (no g1 fun _ s2 g2=>wpAny_bind (no g2 fun _ s3 g3=>wpAny_bind (no g3 fun z s4 g4=> ?_)))
  cases z with
  | false=>exact wpAny_pure (And.intro rfl g4)
  | true=>exact wpAny_bind (wpAny_bind (no g4 fun y s5 g5=>wpAny_bind (no g5 fun _ s6 g6=>wpAny_pure (wpAny_pure (And.intro rfl g6)))))
def bL (X:Cx)(scope:Scope)(cl:List (Str×Addr))(N':List Str)(C:Addr)(s₀:Shared)(H₀:Hp)(fp:List Addr):Cx:=
 { X with N:=N',s₀:=s₀,H₀:=H₀,env:=compEnvC scope cl C X.env,outer:=X.stack,stack:=X.stack,ex:=fp,fn:=fun x=>scope.names.lookup x == some .cell,xe:=fun _ _=>False }
def fm (src:List (Option Nat))(σ:St):St:=src.map fun o=>match o with
 | some i=>(σ[i]?).join
 | none=>none
theorem lookup_relabel {env:Env}:∀ {names:List (Str×NameKind)} {x:Str} {k:NameKind},
  (names.map fun(n,k)=>if (k == NameKind.free&&env.scope.kind == .function&&env.kindOf n == some .cell)then(n,NameKind.cell)else(n,k)).lookup x=some k →
  ∃k',names.lookup x=some k'/\(k=k'\/k'= .free)
 | [],_,_,h=>by simp at h
 | (n,k0)::r,x,k,h=>by
  have ih:=@lookup_relabel env r x k
  have h':List.lookup x ((if (k0 == NameKind.free&&env.scope.kind == .function&&env.kindOf n == some .cell)=true then(n,NameKind.cell)else(n,k0))::(r.map fun(n,k)=>if (k == NameKind.free&&env.scope.kind == .function&&env.kindOf n == some .cell)then(n,NameKind.cell)else(n,k)))=some k:=h
  by_cases hc:(k0 == NameKind.free&&env.scope.kind == .function&&env.kindOf n == some .cell)=true
  ·rw [if_pos hc]at h'
   rw [List.lookup_cons]at h' ⊢
   cases hx:x == n with
   | true=>
    refine⟨k0,rfl,.inr ?_⟩
    have:=Bool.and_eq_true_iff.mp hc|>.1
    have:=Bool.and_eq_true_iff.mp this|>.1
    simpa using this
   | false=>rw [hx]at h';exact ih h'
  ·rw [if_neg hc]at h'
   rw [List.lookup_cons]at h' ⊢
   cases hx:x == n with
   | true=>rw [hx]at h';exact⟨k0,rfl,.inl (Option.some.inj h').symm⟩
   | false=>rw [hx]at h';exact ih h'
theorem mem_of_lk {names:List (Str×NameKind)}{x:Str}{k:NameKind}(h:names.lookup x=some k):(x,k)∈names:=PySem.mem_of_lookup h
theorem lc_relabel_free {env:Env}:∀ {names:List (Str×NameKind)} {x:Str},names.lookup x=some .free →
  (names.map fun(n,k)=>if (k == NameKind.free&&env.scope.kind == .function&&env.kindOf n == some .cell)then(n,NameKind.cell)else(n,k)).lookup x=some .cell ∨
  (names.map fun(n,k)=>if (k == NameKind.free&&env.scope.kind == .function&&env.kindOf n == some .cell)then(n,NameKind.cell)else(n,k)).lookup x=some .free
 | [],_,h=>by simp at h
 | (n,k0)::r,x,h=>by
  have ih:=@lc_relabel_free env r x
  show List.lookup x ((if (k0 == NameKind.free&&env.scope.kind == .function&&env.kindOf n == some .cell)=true then(n,NameKind.cell)else(n,k0))::_)=_\/List.lookup x ((if (k0 == NameKind.free&&env.scope.kind == .function&&env.kindOf n == some .cell)=true then(n,NameKind.cell)else(n,k0))::_)=_
  rw [List.lookup_cons]at h
  by_cases hc:(k0 == NameKind.free&&env.scope.kind == .function&&env.kindOf n == some .cell)=true
  ·rw [if_pos hc]
   rw [List.lookup_cons]
   cases hx:x == n with
   | true=>exact .inl rfl
   | false=>rw [hx]at h;exact ih h
  ·rw [if_neg hc]
   rw [List.lookup_cons]
   cases hx:x == n with
   | true=>rw [hx]at h;exact .inr h
   | false=>rw [hx]at h;exact ih h
section
variable {X:Cx}
structure LcScope (X:Cx)(scope:Scope)(N':List Str)(src:List (Option Nat)):Prop where
 kind:scope.kind= .function
 cel:∀ y∈scope.names,y.2= .cell->scope.names.lookup y.1=some .cell
 loc:∀ y∈scope.names,y.2= .local->scope.names.lookup y.1=some .local
 len:src.length=N'.length
 from_:∀ (j i:Nat) (x:Str),src[j]? =some (some i)->N'[j]? =some x->X.N[i]? =some x/\scope.names.lookup x=some .free
 free:∀ x,(x,NameKind.free)∈scope.names->X.env.kindOf x=some .cell\/X.env.kindOf x=some .free
def tLc (K:PySem.W.Frag)(wi:TI)(src:List (Option Nat))(g:TG)(tc:TT)(te:TE):TE:=fun σ H Q=>wi σ H fun J H1=> ∀D,H1 D=none->K.lookup D=none →
 ∃W:Nat->Nat->St->List V->Hp->Prop,(∃m,W 0 m (fm src σ) [] (upd H1 D (.lst [])))/\∀ i m σ ys H,W i m σ ys H->H D=some (.lst ys) ∧
  ((J.stop i H/\Q (.ref D) H)\/(J.go i H/\ys.length<sizeLine/\∀ x H',J.yld i H x H'->g x σ H' fun σ2 H2=>tc σ2 H2 fun b H3=>
   if b=true then te σ2 H3 fun v H4=>H4 D=some (.lst ys)/\∃ m',m'<m/\W (i+1) m' σ2 (ys++ [v]) (upd H4 D (.lst (ys++ [v])))else ∃m',m'<m/\W (i+1) m' σ2 ys H3))
def PIf (X:Cx)(ifs:List Expr)(t:TT):Prop:=
 ∀(pins:List (Addr×Obj)) (s:Shared) (σ:St) (H:Hp) (Q:Bool->Hp->Prop),Inv X pins σ H s->t σ H Q →
  wpAny (model X.prog X.w) X.A (forIn ifs true fun c r=>if r=true then do let ok <-isTrue c X.env (eval c X.env);pure (ForInStep.yield ok)else pure (ForInStep.yield r)) (TP X pins σ Q) X.xe s
def tTrue:TT:=fun _ H Q=>Q true H
theorem pif_nil:PIf X [] tTrue:=fun _ _ _ H _ I h=>wpAny_tests_nil ⟨H,I,h⟩
theorem pif_one {c:Expr}{t:TT}(h:PT X c t):PIf X [c] t:=fun pins s σ H Q I q=>wpAny_tests_one (h pins s σ H Q I q)
theorem cells_own:∀ (names:List (Str×NameKind)) (h:Heap) (acc:List (Str×Addr)),(∀x y c,acc.lookup x=some c->acc.lookup y=some c->x=y)->(∀x c,acc.lookup x=some c->c<h.objs.size) →
  (∀x c,(cellsFrom h.objs.size names acc).lookup x=some c->acc.lookup x=some c\/(h.objs.size<=c/\(pushCells h names).IsCell c none)) ∧
  (∀x y c,(cellsFrom h.objs.size names acc).lookup x=some c->(cellsFrom h.objs.size names acc).lookup y=some c->x=y) ∧
  (∀x,(x,NameKind.cell)∉names->(cellsFrom h.objs.size names acc).lookup x=acc.lookup x) ∧
  (∀x,((x,NameKind.cell)∈names\/∃ c,acc.lookup x=some c)->∃ c,(cellsFrom h.objs.size names acc).lookup x=some c) ∧
  (∀x c,(x,NameKind.cell)∈names->(cellsFrom h.objs.size names acc).lookup x=some c->h.objs.size<=c)
 | [],h,acc,hi,_=>⟨fun _ _ e=> .inl e,hi,fun _ _=>rfl,fun x e=>e.elim (fun z=>absurd z List.not_mem_nil) id,fun _ _ z=>absurd z List.not_mem_nil⟩
 | (n,k)::r,h,acc,hi,hl=>by
  unfold cellsFrom pushCells
  by_cases hk:k= .cell
  ·subst hk
   rw [if_pos (by rfl),if_pos (by rfl)]
   have hz:(h.push { cls:=.type "cell",data:=.cell none }).objs.size=h.objs.size+1:=Heap.size_push ..
   have lk:∀ x,((n,h.objs.size)::acc).lookup x=if x=n then some h.objs.size else acc.lookup x:=fun x=>by
    rw [List.lookup_cons]
    by_cases e:x=n
    ·rw [if_pos e,beq_iff_eq.mpr e]
    ·rw [if_neg e,beq_eq_false_iff_ne.mpr e]
   obtain⟨c1,c2,c3,c4,c5⟩:=cells_own r (h.push { cls:=.type "cell",data:=.cell none }) ((n,h.objs.size)::acc) (fun x y c e1 e2=>by
     rw [lk]at e1 e2
     by_cases q1:x=n
     ·by_cases q2:y=n
      ·rw [q1,q2]
      ·rw [if_pos q1]at e1;rw [if_neg q2]at e2
       cases e1
       exact absurd (hl _ _ e2) (Nat.lt_irrefl _)
     ·rw [if_neg q1]at e1
      by_cases q2:y=n
      ·rw [if_pos q2]at e2
       cases e2
       exact absurd (hl _ _ e1) (Nat.lt_irrefl _)
      ·rw [if_neg q2]at e2;exact hi x y c e1 e2) (fun x c e=>by
     rw [lk]at e
     rw [hz]
     by_cases q:x=n
     ·rw [if_pos q]at e;cases e;exact Nat.lt_succ_self _
     ·rw [if_neg q]at e;exact Nat.lt_succ_of_lt (hl x c e))
   rw [hz]at c1 c2 c3 c4 c5
   refine⟨fun x c e=> ?_,c2,fun x hx=> ?_,fun x hx=> ?_,fun x c hx e=> ?_⟩
   ·rcases c1 x c e with z | z
    ·rw [lk]at z
     by_cases q:x=n
     ·rw [if_pos q]at z;cases z
      exact .inr ⟨Nat.le_refl _,_,pushCells_keeps r _ _ _ (Heap.get?_push_size _ rfl),rfl⟩
     ·rw [if_neg q]at z;exact .inl z
    ·exact .inr ⟨Nat.le_of_succ_le z.1,z.2⟩
   ·rw [c3 x fun z=>hx (List.mem_cons_of_mem _ z),lk,if_neg fun z=>hx (by rw [z];exact List.mem_cons_self)]
   ·refine c4 x ?_
    rcases hx with hx | hx
    ·rcases List.mem_cons.mp hx with z | z
     ·cases z
      exact .inr ⟨_,by rw [lk,if_pos rfl]⟩
     ·exact .inl z
    ·by_cases q:x=n
     ·exact .inr ⟨_,by rw [lk,if_pos q]⟩
     ·exact .inr (by rw [lk,if_neg q];exact hx)
   ·rcases List.mem_cons.mp hx with z | z
    ·have q:x=n:=(Prod.mk.inj z).1
     rcases c1 x c e with y | y
     ·rw [lk,if_pos q]at y;cases y;exact Nat.le_refl _
     ·exact Nat.le_of_succ_le y.1
    ·exact Nat.le_of_succ_le (c5 x c z e)
  ·have hb:¬ (k == NameKind.cell)=true:=fun z=>hk (by simpa using z)
   rw [if_neg hb,if_neg hb]
   obtain⟨c1,c2,c3,c4,c5⟩:=cells_own r h acc hi hl
   exact⟨c1,c2,fun x hx=>c3 x fun z=>hx (List.mem_cons_of_mem _ z),fun x hx=>c4 x (hx.imp (fun z=>(List.mem_cons.mp z).resolve_left fun z=>hk (Prod.mk.inj z).2.symm) id),fun x c hx=>c5 x c ((List.mem_cons.mp hx).resolve_left fun z=>hk (Prod.mk.inj z).2.symm)⟩
theorem nfe_block {M:Model}{A:Around}{E:Value->Shared->Prop}{s:Shared}{scope:Scope}{globals:Addr}{cl:List (Str×Addr)}{qual:Str}{env:Env}{Q:Env->Shared->Prop}
  (q:Q (newEnv scope s.heap.objs.size globals (cellsFrom (s.heap.objs.size+1) scope.names cl) qual none .none (some env) builtinsNs) { s with heap:=pushCells (s.heap.push { cls:=.type "dict",data:=.dict #[] }) scope.names }) :
  wpAny M A (newFunctionEnv scope globals cl [] qual none .none (some env)) Q E s:=by
 simp only [newFunctionEnv,Option.isSome_some,if_true]
 refine wpAny_bind (wpAny_alloc (wpAny_bind (wpAny_layCells _ (fun name kind cells=>by cases hkc:kind == NameKind.cell <;> simp [hkc]) _ _ _ _ ?_)))
 rw [show({ s with heap:=s.heap.push { cls:=.type "dict",data:=.dict #[] } }:Shared).heap.objs.size=s.heap.objs.size+1 from Heap.size_push ..]
 rw [List.forIn_nil]
 exact wpAny_bind (wpAny_pure (wpAny_pure q))
theorem lc_core {elt tg iter:Expr}{ifs:List Expr}{scope:Scope}{pos fpos:Pos}{N':List Str}{src:List (Option Nat)}{wi:TI}{g:TG}{tc:TT}{te:TE}{use:Option (Value->Sem Unit)}{Qf:Value->Shared->Prop}
  {pins:List (Addr×Obj)} {s:Shared} {σ:St} {H:Hp} {Q:VK}
  (hc:X.calm=true) (S:LcScope X scope N' src) (hi:PI X tg iter wi)
  (block:∀ cl C s₀ H₀ fp,PG (bL X scope cl N' C s₀ H₀ fp) tg g/\PIf (bL X scope cl N' C s₀ H₀ fp) ifs tc/\PE (bL X scope cl N' C s₀ H₀ fp) elt te)
  (hs:∀ x,foldedSetIterable iter X.env x=pure x) (I:Inv X pins σ H s) (h:tLc X.K wi src g tc te σ H Q)
  (hend:∀ (D C:Addr) (H':Hp) (s':Shared),(∃m,s'.heap.Ns C m)->(∀h',Heap.SameBut C s'.heap h'->Inv X pins σ H' { s' with heap:=h' })->(H' C=none/\C≠X.env.locals/\X.s₀.heap.objs.size<=C/\(∀x c,X.env.cells.lookup x=some c->c≠C)/\∀ p∈X.pn++pins,p.1≠C)->Q (.ref D) H' →
   compPost (model X.prog X.w) X.A X.xe use Qf (.ref D) C (.ok .next) s') :
  wpAny (model X.prog X.w) X.A (comprehension (.ListComp elt [⟨tg,iter,ifs,0⟩] scope pos) scope X.env fpos (newList []) false (eval iter X.env) use) Qf X.xe s:=by
 have hcell:∀ x,(x,NameKind.free)∈scope.names->∃ c,X.env.cells.lookup x=some c:=fun x hx=>I.ok.has x (S.free x hx)
 obtain⟨cl0,hcl,cl01,cl02⟩:=closure_ok (env:=X.env) (scope:=scope) hcell
 refine wpAny_comprehension_free (use:=use) rfl hs hcl S.kind S.loc (bK (hi pins s σ H _ I h) fun v s1 h1=>bK h1 fun itv s2 h2=> ?_)
 obtain⟨it,fp,tn,J,H2,e,I2,T,st2,f2,hq⟩:=h2
 subst e
 -- the new list
 refine wpAny_newObj_type ?_
 have hD:H2 s2.heap.objs.size=none:=I2.hok.fresh (Nat.le_refl _)
 have hDK:X.K.lookup s2.heap.objs.size=none:=by
  cases q:X.K.lookup s2.heap.objs.size with
  | none=>rfl
  | some o=>exact absurd (Heap.lt_size (I2.kIn _ o q)) (Nat.lt_irrefl _)
 obtain⟨W,⟨m0,w0⟩,turn⟩:=hq s2.heap.objs.size hD hDK
 have I3:=I2.lnew (its:=[]) (ys:=[]) (t':=s2.toks) .nil (Nat.zero_le _)
 generalize hs3:({ s2 with heap:=s2.heap.push { cls:=.type "list",data:=.seq ([]:List Value).toArray },toks:=s2.toks }:Shared)=s3 at I3
 generalize hH3:upd H2 s2.heap.objs.size (.lst [])=H3 at I3 w0
 have hDsz:s2.heap.objs.size<s3.heap.objs.size:=by rw [<-hs3];simp [Heap.size_push]
 have fr3:∀ b∈fp,H3 b=none:=fun b hb=>by
  obtain⟨o,eo,_⟩:=T.obj _ _ st2 b hb
  rw [<-hH3,aA (Nat.ne_of_lt (Heap.lt_size eo))]
  exact(f2 b hb).1
 have st3:tn 0 s3.heap:=T.keep _ _ _ st2 fun b hb o e=>by rw [<-hs3];exact Heap.get?_push_of_some _ e
 have f3:∀ b∈fp,FpOk X pins H3 b:=fun b hb=>⟨fr3 b hb,(f2 b hb).2⟩
 have D3:H3 s2.heap.objs.size=some (.lst []):=by rw [<-hH3];exact aG
 generalize s2.heap.objs.size=D at*
 clear hs3 hH3 hD hDK
 -- the block's frame
 refine nfe_block ?_
 have old:∀ b o,s3.heap.get? b=some o->(pushCells (s3.heap.push { cls:=.type "dict",data:=.dict #[] }) scope.names).get? b=some o:=fun b o e=>pushCells_keeps _ _ b o (Heap.get?_push_of_some _ e)
 have hns₁:(pushCells (s3.heap.push { cls:=.type "dict",data:=.dict #[] }) scope.names).Ns s3.heap.objs.size (fun _=>none):=(Heap.Ns.new s3.heap (.type "dict")).keeps (pushCells_keeps _ _)
 have hz3:(s3.heap.push { cls:=.type "dict",data:=.dict #[] }).objs.size=s3.heap.objs.size+1:=Heap.size_push ..
 have lt0:∀ x c,cl0.lookup x=some c->c<s3.heap.objs.size:=fun x c e=>let ⟨_,ic⟩:=I3.cell x c (cl01 x c e);ic.lt
 obtain⟨c1,c2,c3,c4,c5⟩:=cells_own scope.names (s3.heap.push { cls:=.type "dict",data:=.dict #[] }) cl0 (fun x y c e1 e2=>I3.ok.inj x y c (cl01 x c e1) (cl01 y c e2)) fun x c e=>by rw [hz3];exact Nat.lt_succ_of_lt (lt0 x c e)
 rw [hz3]at c1 c2 c3 c4 c5
 generalize hcl':cellsFrom (s3.heap.objs.size+1) scope.names cl0=cl at*
 generalize hh₁:pushCells (s3.heap.push { cls:=.type "dict",data:=.dict #[] }) scope.names=h₁ at*
 have below:∀ b o,s3.heap.get? b=some o->b≠s3.heap.objs.size:=fun b o e=>Nat.ne_of_lt (Heap.lt_size e)
 -- a cell of the block's: one from around,or a new one
 have cl1:∀ x c,cl.lookup x=some c->X.env.cells.lookup x=some c\/(s3.heap.objs.size<c/\h₁.IsCell c none):=fun x c e=>(c1 x c e).imp (cl01 x c) id
 generalize hC:s3.heap.objs.size=C at*
 have stk:∀ b,b≠X.env.locals->b∉X.fs->b∉frs X.stack:=fun b h1 h2 z=>(List.mem_cons.mp (I3.stkSub b z)).elim h1 h2
 have apart:∀ b∈fp,∀x c,cl.lookup x=some c->c≠b:=fun b hb x c e=>by
  rcases cl1 x c e with z | z
  ·exact(f3 b hb).2.2.2.2.1 x c z
  ·obtain⟨o,eo,_⟩:=T.obj _ _ st3 b hb
   have h1:=Heap.lt_size eo
   rw [hC]at h1
   exact Nat.ne_of_gt (Nat.lt_trans h1 z.1)
 have I4:Inv (bL X scope cl N' C s3 H3 fp) pins (fm src σ) H3 { s3 with heap:=h₁ }:=by
  refine⟨⟨I3.ok.mod,S.kind,I3.ok.glob,I3.ok.blt,Nat.le_of_eq hC,c2,fun x hx=> ?_,fun x c hx e=>Nat.le_of_lt (hC▸c5 x c (mem_of_lk (beq_iff_eq.mp hx)) e),I3.ok.hd,I3.ok.frames,.inl rfl,
    fun b hb=>⟨?_,fun x c e=>apart b hb x c e⟩,I3.bs,Nat.le_trans I3.ok.bsz I3.sz,fun b o e z=> ?_,fun b hb=>stk b (f3 b hb).2.1 (f3 b hb).2.2.1,I3.stack,I3.stkFree⟩,
   rfl,I3.bare,Un.kept old,⟨_,hns₁,fun j x v e1 e2 e3=> ?_⟩,fun x c e=> ?_,I3.hok.fresh (Nat.le_of_eq hC),fun x c e=>(cl1 x c e).elim (I3.freeC x c) fun z=>I3.hok.fresh (by rw [hC];exact Nat.le_of_lt z.1),fun p hp=> ?_,I3.hok.kept old,?_⟩
  ·have key:∀ k,(relabel scope X.env).names.lookup x=some k->(k= .cell\/k= .free)->∃ c,cl.lookup x=some c:=fun k e hk=>by
    obtain⟨k',e',z⟩:=lookup_relabel e
    have hk':k'= .cell\/k'= .free:=z.elim (fun z=>z▸hk) .inr
    rcases hk' with q | q
    ·exact c4 x (.inl (q▸mem_of_lk e'))
    ·exact c4 x (.inr (cl02 x (q▸mem_of_lk e')))
   rcases hx with hx | hx
   ·exact key _ hx (.inl rfl)
   ·exact key _ hx (.inr rfl)
  ·obtain⟨o,eo,_⟩:=T.obj _ _ st3 b hb
   show b≠C
   exact below b o eo
  ·have z':b∈fp:=z
   obtain⟨_,_,_,z1,_⟩:=f3 b z'
   rcases z1 with z1 | z1
   ·exact I3.ok.noex b o e z1
   ·exact absurd (Nat.lt_of_lt_of_le (Heap.lt_size (I3.ok.bs b o e).1) z1) (Nat.lt_irrefl _)
  ·unfold fm at e2
   rw [List.getElem?_map]at e2
   cases q:src[j]? with
   | none=>rw [q]at e2;simp at e2
   | some o=>
    rw [q]at e2
    cases o with
    | none=>simp at e2
    | some i=>
     have e2':(σ[i]?).join=some v:=by simpa using e2
     have e2'':σ[i]? =some (some v):=by
      cases q2:σ[i]? with
      | none=>rw [q2]at e2';simp at e2'
      | some z=>rw [q2]at e2';simp at e2';rw [e2']
     obtain⟨hN,hfree⟩:=S.from_ j i x q e1
     have hm:=mem_of_lk hfree
     have hk:=S.free x hm
     obtain⟨m,hn,hl⟩:=I3.loc
     have hv:Vis X.env.scope x:=by
      rcases hk with z | z
      ·exact .inr (.inl z)
      ·exact .inr (.inr z)
     obtain⟨u,r,l⟩:=hl i x v hN e2'' hv
     refine⟨u,r,.inr ⟨?_,?_⟩⟩
     ·exact lc_relabel_free hfree
     ·rcases l with⟨z,_⟩ | ⟨_,c,ec,ic⟩
      ·rcases hk with z' | z' <;> rw [z']at z <;> cases z
      ·obtain⟨c',ec0⟩:=cl02 x hm
       have ec':cl.lookup x=some c':=(c3 x fun z=>by have:=S.cel _ z rfl;rw [hfree]at this;cases this).trans ec0
       have:=cl01 x c' ec0
       rw [ec]at this
       cases this
       obtain⟨o,ho,hd⟩:=ic
       exact⟨c,ec',o,old _ _ ho,hd⟩
  ·rcases cl1 x c e with z | z
   ·obtain⟨v,o,ho,hd⟩:=I3.cell x c z
    exact⟨v,o,old _ _ ho,hd⟩
   ·exact⟨none,z.2⟩
  ·obtain⟨e,n,ne,nf,d⟩:=I3.pin p hp
   exact⟨old _ _ e,n,below _ _ e,stk _ ne nf,d⟩
  ·show(fm src σ).length=N'.length
   unfold fm
   rw [List.length_map]
   exact S.len
 obtain⟨bG,bI,bE⟩:=block cl C s3 H3 fp
 have stat:∀ {H':Hp},(∀b∈fp,H' b=none)->∀ b∈fp,FpOk (bL X scope cl N' C s3 H3 fp) pins H' b:=fun hn b hb=>by
  obtain⟨o,eo,_⟩:=T.obj _ _ st3 b hb
  exact⟨hn b hb,below b o eo,stk b (f3 b hb).2.1 (f3 b hb).2.2.1,.inl hb,apart b hb,(f3 b hb).2.2.2.2.2⟩
 have st4:tn 0 h₁:=T.keep _ _ _ st3 fun b hb o e=>old b o e
 -- behind the block
 have after:∀ (H':Hp) (s':Shared) (σ':St),Inv (bL X scope cl N' C s3 H3 fp) pins σ' H' s'->Q (.ref D) H' →
   compPost (model X.prog X.w) X.A X.xe use Qf (.ref D) C (.ok .next) s':=fun H' s' σ' I' q=>by
  obtain⟨m,hn,_⟩:=id I'.loc
  have fC:X.s₀.heap.objs.size<=C:=by rw [<-hC];exact I3.sz
  have ltC:∀ b o,s3.heap.get? b=some o->b<C:=fun b o e=>by rw [<-hC];exact Heap.lt_size e
  refine hend D C H' s' ⟨m,hn⟩ (fun h' hsb=> ?_) ⟨I'.free,?_,fC,fun x c e z=> ?_,fun p hp z=> ?_⟩ q
  rotate_left
  ·have:=I3.lt;rw [hC]at this;exact Nat.ne_of_gt this
  ·obtain⟨v,ic⟩:=I3.cell x c e
   have:=ic.lt;rw [hC,z]at this;exact Nat.lt_irrefl _ this
  ·have:=ltC _ _ (I3.pin p hp).1;rw [z]at this;exact Nat.lt_irrefl _ this
  have u:Un (frs X.stack) fp H3 H' s3.heap s'.heap:=I'.base
  have lift:∀ b o,s3.heap.get? b=some o->∀ o',s'.heap.get? b=some o'->h'.get? b=some o':=fun b o e o' e'=>hsb.extBut b o' (below b o e) e'
  have u':Un (frs X.stack) fp H3 H' s3.heap h':=
   ⟨fun b o e n hb hx=>lift b o e o (u.keep b o e n hb hx),fun b o e n hb hx=>by
     obtain⟨sl,z⟩:=u.slot b o e n hb hx
     exact⟨sl,lift b o e _ z⟩,u.free,fun b o e hx=>by
     obtain⟨o',z⟩:=u.there b o e hx
     exact⟨o',lift b o e _ z⟩,u.tups,u.frzs,u.tbls⟩
  have hCn:H' C=none:=I'.free
  have hok':HOk X.prog X.w H' h':=fun b ob e=>by
   refine(I'.hok b ob e).stay (fun c w' hc' q'=>(hsb.2 c ?_).trans q') (fun _ q=>q) fun _ _ q=>q
   rintro rfl
   rcases hc' with rfl | hc'
   ·rw [hCn]at e;cases e
   ·rw [hCn]at hc';cases hc'
  have I5:Inv X pins σ H' { s' with heap:=h' }:=I3.call' (s':={ s' with heap:=h' }) (ch:=fp) I'.os u' hok' I'.bare fun b hb=>⟨(f3 b hb).2.2.2.1,(f3 b hb).2.1,(f3 b hb).2.2.2.2.1,(f3 b hb).2.2.2.2.2⟩
  exact I5
 have loop:codeAny (model X.prog X.w) X.A (.compLoop (.ListComp elt [⟨tg,iter,ifs,0⟩] scope pos) 0 (.ref it) (.ref D) (compEnvC scope cl C X.env))
   (compPost (model X.prog X.w) X.A X.xe use Qf (.ref D) C) { s3 with heap:=h₁ }:=by
  refine compLoop_any (fun n s'=> ∃i σ' ys H',Inv (bL X scope cl N' C s3 H3 fp) pins σ' H' s'/\tn i s'.heap/\(∀b∈fp,H' b=none)/\W i n σ' ys H') ?_ m0 ⟨0,_,[],H3,I4,st4,fr3,w0⟩
  rintro n s5 ⟨i,σ5,ys,H5,I5,st5,fr5,w5⟩
  obtain⟨hDl,alt⟩:=turn i n σ5 ys H5 w5
  rcases alt with⟨stop,qn⟩ | ⟨go,hlen,step⟩
  ·refine bK (T.done (bL X scope cl N' C s3 H3 fp) rfl rfl rfl hc i pins s5 σ5 H5 _ I5 (stat fr5) st5 stop) fun r s6 ⟨hr,I6⟩=> ?_
   subst hr
   exact after H5 s6 σ5 I6 qn
  ·refine bK (T.item (bL X scope cl N' C s3 H3 fp) rfl rfl rfl hc i pins s5 σ5 H5 _ I5 (stat fr5) st5 go) fun r s6 ⟨u,hr,h6⟩=> ?_
   subst hr
   refine bK h6 fun _ s7 hh_=> ?_
   obtain⟨x,H7,I7,r7,y7,st7,fr7⟩:=hh_
   have I7':=I7.pinned (stat fr7) (T.obj _ _ st7)
   refine bK (bG _ s7 σ5 H7 x u _ I7' r7 (step x H7 y7)) fun _ s8 hh_=> ?_
   obtain⟨σ8,H8,I8,q8⟩:=hh_
   refine bK (bI _ s8 σ8 H8 _ I8 q8) fun ok s9 hh_=> ?_
   obtain⟨H9,I9,q9⟩:=hh_
   have again:∀ {σx:St} {Hx:Hp} {sx:Shared} {ys':List V},Inv (bL X scope cl N' C s3 H3 fp) (pins++pinsAt fp s7.heap) σx Hx sx->(∃m',m'<n/\W (i+1) m' σx ys' Hx) →
     ∃m,m<n/\∃ i σ' ys H',Inv (bL X scope cl N' C s3 H3 fp) pins σ' H' sx/\tn i sx.heap/\(∀b∈fp,H' b=none)/\W i m σ' ys H':=fun {σx Hx sx ys'} Ix nx=>by
    obtain⟨m',hm,wx⟩:=nx
    refine⟨m',hm,i+1,σx,ys',Hx,Ix.unpinned,T.keep _ _ _ st7 fun b hb o e=>(Ix.pin (b,o) (List.mem_append_right _ (List.mem_append_right _ (gB hb e)))).1,fun b hb=> ?_,wx⟩
    obtain⟨o,e,d⟩:=T.obj _ _ st7 b hb
    exact(Ix.pin (b,o) (List.mem_append_right _ (List.mem_append_right _ (gB hb e)))).2.1
   cases ok with
   | false=>
    rw [if_neg Bool.false_ne_true]at q9 ⊢
    exact again I9 q9
   | true=>
    rw [if_pos rfl]at q9 ⊢
    refine bK (bE _ s9 σ8 H9 _ I9 q9) fun v s10 hh_=> ?_
    obtain⟨y,H10,I10,r10,hD10,q10⟩:=hh_
    refine bK (mt_append _ s10 σ8 H10 (.ref D) [y] (.ref D) [v] (fun _ H'=>H'=upd H10 D (.lst (ys++ [y]))) I10 rfl (.cons r10 .nil) ⟨D,ys,y,rfl,rfl,hD10,hlen,rfl⟩) fun _ s11 hh_=> ?_
    obtain⟨_,H11,I11,_,e11⟩:=hh_
    subst e11
    exact again I11 q10
 exact codeAny_compStart_list loop (T.self _ 0 _ _ _ st4 loop)
theorem pe_lc {elt tg iter:Expr}{ifs:List Expr}{scope:Scope}{pos:Pos}{N':List Str}{src:List (Option Nat)}{wi:TI}{g:TG}{tc:TT}{te:TE}
  (hc:X.calm=true) (S:LcScope X scope N' src) (hi:PI X tg iter wi)
  (block:∀ cl C s₀ H₀ fp,PG (bL X scope cl N' C s₀ H₀ fp) tg g/\PIf (bL X scope cl N' C s₀ H₀ fp) ifs tc/\PE (bL X scope cl N' C s₀ H₀ fp) elt te)
  (hs:∀ x,foldedSetIterable iter X.env x=pure x:=by intro _;rfl) :
  PE X (.ListComp elt [⟨tg,iter,ifs,0⟩] scope pos) (tLc X.K wi src g tc te):=by
 intro pins s σ H Q I h
 rw [eval_ListComp]
 exact lc_core (use:=none) hc S hi block hs I h fun D C H' s' ⟨m,hn⟩ inv _ q=>⟨m,hn,fun h' hsb=>⟨.ref D,H',inv h' hsb,rfl,q⟩⟩
theorem ps_lc {elt tg iter:Expr}{ifs:List Expr}{scope:Scope}{pos py spos:Pos}{N':List Str}{src:List (Option Nat)}{wi:TI}{g:TG}{tc:TT}{te:TE}{i:Nat}{y:Str}
  (hc:X.calm=true) (S:LcScope X scope N' src) (hi:PI X tg iter wi)
  (block:∀ cl C s₀ H₀ fp,PG (bL X scope cl N' C s₀ H₀ fp) tg g/\PIf (bL X scope cl N' C s₀ H₀ fp) ifs tc/\PE (bL X scope cl N' C s₀ H₀ fp) elt te)
  (hN:X.N.Nodup) (hiy:X.N[i]? =some y) (hy:Loc X.env.scope y) (hsw:swapsWith (.ListComp elt [⟨tg,iter,ifs,0⟩] scope pos) (some (.Name y py)) spos.line X.env=pure true)
  (hf:X.fn y=true\/X.env.scope.names.lookup y=some .local) (hs:∀ x,foldedSetIterable iter X.env x=pure x:=by intro _;rfl) :
  PS X (.Assign [.Name y py] (.ListComp elt [⟨tg,iter,ifs,0⟩] scope pos) spos) (tAsg (tLc X.K wi src g tc te) (gName i)):=by
 intro pins s σ H D I h
 rw [exec_Assign_Name_used _ _ _ _ hsw]
 refine wpAny_bind (wpAny_standAt (wpAny_bind ?_))
 show wpAny (model X.prog X.w) X.A (do let _ <-comprehension (.ListComp elt [⟨tg,iter,ifs,0⟩] scope pos) scope X.env _ (newList []) false (eval iter X.env) (some (assign (.Name y py) X.env))) _ _ s
 refine wpAny_bind (bK (lc_core (use:=some (assign (.Name y py) X.env)) (Qf:=fun _ s'=>SP X pins D .next s') (Q:=fun v H'=>D.nx (σ.set i (some v)) H') hc S hi block hs I h fun L C H' s' ⟨m,hn⟩ inv ⟨c0,c1,c2,c3,c4⟩ q=> ?_) fun _ s' hq=>wpAny_pure (wpAny_pure hq))
 have I0:Inv X pins σ H' s':=inv s'.heap (Heap.SameBut.refl ..)
 show wpAny (model X.prog X.w) X.A (assign (.Name y py) X.env (.ref L)) _ _ s'
 refine wpAny_assign_Name (store_ok2 I0 hN hiy hy (v:=.ref L) rfl (fun s2 I2 ⟨b,sb,hb⟩=> ?_) hf)
 have hbC:C≠b:=by
  rcases hb with z | z
  ·rw [z];exact c1
  ·exact fun w=>c3 y b z w.symm
 refine⟨m,hn.sameBut sb hbC,fun h' hsb=> ?_⟩
 exact⟨_,H',I2.turned (t':=s2.toks) (fun b' o hb' e=>(hsb.2 b' hb').trans e) c0 c1 (.inr c2) c3 c4,q⟩
end
end L2
namespace Tr
open PySem PySem.Spec PyProof.Rows L2
inductive T where
 | non | bl (b:Bool) | int (i:Int) | str (x:Str) | tup (l:List T) | lst (l:List T)
 /-- the law's script: a list of ints that is only read -/
 | scr (l:List Int)
 /-- a dict: its keys,its values -/
 | dct (ks vs:List T)
def keyEl:T->Option Key
 | .int i=>some (.inl i)
 | .str x=>some (.inr x)
 | _=>none
def keyEls:List T->Option (List Key)
 | [] =>some []
 | t::l=>match keyEl t,keyEls l with
  | some k,some r=>some (k::r)
  | _,_=>none
def aR:T->Option (List Key)
 | .tup l=>keyEls l
 | _=>none
inductive Rs (α:Type) where
 | ok (a:α) | err (c:Str) | bad
def Rs.bind {α β:Type}(x:Rs α)(f:α->Rs β):Rs β:=match x with
 | .ok a=>f a
 | .err c=> .err c
 | .bad=> .bad
instance:Monad Rs where
 pure:=Rs.ok
 bind:=Rs.bind
@[simp] theorem aD {α β:Type} (a:α) (f:α->Rs β):(Rs.ok a >>= f)=f a:=rfl
@[simp] theorem pure_ok {α:Type} (a:α):(pure a:Rs α)=Rs.ok a:=rfl
@[simp] theorem bad_bind {α β:Type} (f:α->Rs β):((Rs.bad:Rs α) >>= f)= .bad:=rfl
@[simp] theorem err_bind {α β:Type} (c:Str) (f:α->Rs β):((Rs.err c:Rs α) >>= f)= .err c:=rfl
abbrev Ow:=Addr->Prop
mutual
def Rep (K:PySem.W.Frag)(O:Ow)(H:Hp):T->V->Prop
 | .non,v=>v= .non
 | .bl b,v=>v= .bl b
 | .int i,v=>v= .int i
 | .str x,v=>v= .str x
 | .tup l,v=> ∃a vs,v= .ref a/\¬ O a/\H a=some (.tup vs)/\Reps K O H l vs
 | .lst l,v=> ∃a vs,v= .ref a/\¬ O a/\H a=some (.lst vs)/\Reps K O H l vs
 | .scr l,v=> ∃a,v= .ref a/\¬ O a/\SqL K H a (l.map V.int)
 | .dct ks ts,v=> ∃a kvs,v= .ref a/\¬ O a/\H a=some (.dT kvs)/\ks.map aR=kvs.map (fun p=>some p.1)/\Reps K O H ts (kvs.map (·.2))
def Reps (K:PySem.W.Frag)(O:Ow)(H:Hp):List T->List V->Prop
 | [],vs=>vs= []
 | t::r,vs=> ∃v ws,vs=v::ws/\Rep K O H t v/\Reps K O H r ws
end
def SameO (P:Ow)(H H':Hp):Prop:=∀ b o,H b=some o->¬ P b->H' b=some o
theorem SameO.of {P:Ow}{H H':Hp}(h:Same H H'):SameO P H H':=fun b o e _=>h b o e
theorem SqL.keep {K:PySem.W.Frag}{P:Ow}{H H':Hp}{a:Addr}{vs:List V}(h:SameO P H H')(n:¬ P a)(q:SqL K H a vs):SqL K H' a vs:=by
 rcases q with(q | ⟨o,q⟩) | q
 ·exact .inl (.inl (h _ _ q n))
 ·exact .inl (.inr ⟨o,h _ _ q n⟩)
 ·exact .inr q
mutual
theorem Rep.keep {K:PySem.W.Frag}{O P:Ow}{H H':Hp}(h:SameO P H H')(sub:∀ a,P a->O a):∀ {t:T} {v:V},Rep K O H t v->Rep K O H' t v
 | .non,_,r=>by unfold Rep at r ⊢;exact r
 | .bl _,_,r=>by unfold Rep at r ⊢;exact r
 | .int _,_,r=>by unfold Rep at r ⊢;exact r
 | .str _,_,r=>by unfold Rep at r ⊢;exact r
 | .tup l,_,r=>by
  unfold Rep at r ⊢
  obtain⟨a,vs,e,n,q,z⟩:=r
  exact⟨a,vs,e,n,h _ _ q (fun p=>n (sub a p)),Reps.keep h sub z⟩
 | .lst l,_,r=>by
  unfold Rep at r ⊢
  obtain⟨a,vs,e,n,q,z⟩:=r
  exact⟨a,vs,e,n,h _ _ q (fun p=>n (sub a p)),Reps.keep h sub z⟩
 | .scr l,_,r=>by
  unfold Rep at r ⊢
  obtain⟨a,e,n,q⟩:=r
  exact⟨a,e,n,SqL.keep h (fun p=>n (sub a p)) q⟩
 | .dct ks ts,_,r=>by
  unfold Rep at r ⊢
  obtain⟨a,kvs,e,n,q,k,z⟩:=r
  exact⟨a,kvs,e,n,h _ _ q (fun p=>n (sub a p)),k,Reps.keep h sub z⟩
theorem Reps.keep {K:PySem.W.Frag}{O P:Ow}{H H':Hp}(h:SameO P H H')(sub:∀ a,P a->O a):∀ {l:List T} {vs:List V},Reps K O H l vs->Reps K O H' l vs
 | [],_,r=>by unfold Reps at r ⊢;exact r
 | t::l,_,r=>by
  unfold Reps at r ⊢
  obtain⟨v,ws,e,p,q⟩:=r
  exact⟨v,ws,e,Rep.keep h sub p,Reps.keep h sub q⟩
end
mutual
theorem Rep.less {K:PySem.W.Frag}{O O':Ow}{H:Hp}(sub:∀ a,O' a->O a):∀ {t:T} {v:V},Rep K O H t v->Rep K O' H t v
 | .non,_,r=>by unfold Rep at r ⊢;exact r
 | .bl _,_,r=>by unfold Rep at r ⊢;exact r
 | .int _,_,r=>by unfold Rep at r ⊢;exact r
 | .str _,_,r=>by unfold Rep at r ⊢;exact r
 | .tup l,_,r=>by
  unfold Rep at r ⊢
  obtain⟨a,vs,e,n,q,z⟩:=r
  exact⟨a,vs,e,fun p=>n (sub a p),q,Reps.less sub z⟩
 | .lst l,_,r=>by
  unfold Rep at r ⊢
  obtain⟨a,vs,e,n,q,z⟩:=r
  exact⟨a,vs,e,fun p=>n (sub a p),q,Reps.less sub z⟩
 | .scr l,_,r=>by
  unfold Rep at r ⊢
  obtain⟨a,e,n,z⟩:=r
  exact⟨a,e,fun p=>n (sub a p),z⟩
 | .dct ks ts,_,r=>by
  unfold Rep at r ⊢
  obtain⟨a,kvs,e,n,q,k,z⟩:=r
  exact⟨a,kvs,e,fun p=>n (sub a p),q,k,Reps.less sub z⟩
theorem Reps.less {K:PySem.W.Frag}{O O':Ow}{H:Hp}(sub:∀ a,O' a->O a):∀ {l:List T} {vs:List V},Reps K O H l vs->Reps K O' H l vs
 | [],_,r=>by unfold Reps at r ⊢;exact r
 | t::l,_,r=>by
  unfold Reps at r ⊢
  obtain⟨v,ws,e,p,q⟩:=r
  exact⟨v,ws,e,Rep.less sub p,Reps.less sub q⟩
end
section
variable {K:PySem.W.Frag}{O:Ow}{H H':Hp}{t:T}{v:V}{l:List T}{vs:List V}
theorem Rep.same (h:Same H H')(r:Rep K O H t v):Rep K O H' t v:=Rep.keep (P:=fun _=>False) (SameO.of h) (fun _ z=>z.elim) r
theorem Reps.same (h:Same H H')(r:Reps K O H l vs):Reps K O H' l vs:=Reps.keep (P:=fun _=>False) (SameO.of h) (fun _ z=>z.elim) r
theorem Rep.non_:Rep K O H .non .non:=by unfold Rep;rfl
theorem Rep.bl_ (b:Bool):Rep K O H (.bl b) (.bl b):=by unfold Rep;rfl
theorem Rep.int_ (i:Int):Rep K O H (.int i) (.int i):=by unfold Rep;rfl
theorem Rep.str_ (x:Str):Rep K O H (.str x) (.str x):=by unfold Rep;rfl
theorem Rep.tup_iff:Rep K O H (.tup l) v↔ ∃a vs,v= .ref a/\¬ O a/\H a=some (.tup vs)/\Reps K O H l vs:=by unfold Rep;exact Iff.rfl
theorem Rep.lst_iff:Rep K O H (.lst l) v↔ ∃a vs,v= .ref a/\¬ O a/\H a=some (.lst vs)/\Reps K O H l vs:=by unfold Rep;exact Iff.rfl
theorem Rep.dct_iff {ks ts:List T}:Rep K O H (.dct ks ts) v↔ ∃a kvs,v= .ref a/\¬ O a/\H a=some (.dT kvs)/\ks.map aR=kvs.map (fun p=>some p.1)/\Reps K O H ts (kvs.map (·.2)):=by unfold Rep;exact Iff.rfl
theorem Rep.int_iff {i:Int}:Rep K O H (.int i) v↔v= .int i:=by unfold Rep;exact Iff.rfl
theorem Rep.bl_iff {b:Bool}:Rep K O H (.bl b) v↔v= .bl b:=by unfold Rep;exact Iff.rfl
theorem Rep.str_iff {b:Str}:Rep K O H (.str b) v↔v= .str b:=by unfold Rep;exact Iff.rfl
theorem Rep.non_iff:Rep K O H .non v↔v= .non:=by unfold Rep;exact Iff.rfl
theorem Reps.nil_:Reps K O H [] []:=by unfold Reps;rfl
theorem Reps.cons_ (r:Rep K O H t v)(q:Reps K O H l vs):Reps K O H (t::l) (v::vs):=by unfold Reps;exact⟨v,vs,rfl,r,q⟩
theorem Reps.nil_iff:Reps K O H [] vs↔vs= []:=by unfold Reps;exact Iff.rfl
theorem Reps.cons_iff:Reps K O H (t::l) vs↔ ∃v ws,vs=v::ws/\Rep K O H t v/\Reps K O H l ws:=by
 constructor
 ·intro h;unfold Reps at h;exact h
 ·intro h;unfold Reps;exact h
end
section
variable {K:PySem.W.Frag}{O:Ow}{H H':Hp}
theorem Reps.length:∀ {l:List T} {vs:List V},Reps K O H l vs->l.length=vs.length
 | [],vs,r=>by rw [Reps.nil_iff.mp r];rfl
 | t::l,vs,r=>by
  obtain⟨v,ws,rfl,_,q⟩:=Reps.cons_iff.mp r
  simp [q.length]
theorem Reps.get:∀ {l:List T} {vs:List V} {i:Nat} {t:T},Reps K O H l vs->l[i]? =some t->∃ v,vs[i]? =some v/\Rep K O H t v
 | [],_,_,_,_,e=>by simp at e
 | t::l,vs,i,u,r,e=>by
  obtain⟨v,ws,rfl,p,q⟩:=Reps.cons_iff.mp r
  cases i with
  | zero=>simp at e;subst e;exact⟨v,rfl,p⟩
  | succ i=>
   obtain⟨z,e1,e2⟩:=q.get (i:=i) (t:=u) (by simpa using e)
   exact⟨z,by simpa using e1,e2⟩
theorem Reps.append:∀ {l m:List T} {vs ws:List V},Reps K O H l vs->Reps K O H m ws->Reps K O H (l++m) (vs++ws)
 | [],_,vs,_,r,s=>by rw [Reps.nil_iff.mp r];exact s
 | t::l,m,vs,ws,r,s=>by
  obtain⟨v,us,rfl,p,q⟩:=Reps.cons_iff.mp r
  exact Reps.cons_ p (q.append s)
theorem Reps.take:∀ {l:List T} {vs:List V} (n:Nat),Reps K O H l vs->Reps K O H (l.take n) (vs.take n)
 | _,_,0,_=>Reps.nil_
 | [],vs,n+1,r=>by rw [Reps.nil_iff.mp r];exact Reps.nil_
 | t::l,vs,n+1,r=>by
  obtain⟨v,us,rfl,p,q⟩:=Reps.cons_iff.mp r
  exact Reps.cons_ p (q.take n)
theorem Reps.drop:∀ {l:List T} {vs:List V} (n:Nat),Reps K O H l vs->Reps K O H (l.drop n) (vs.drop n)
 | _,_,0,r=>r
 | [],vs,n+1,r=>by rw [Reps.nil_iff.mp r];exact Reps.nil_
 | t::l,vs,n+1,r=>by
  obtain⟨v,us,rfl,p,q⟩:=Reps.cons_iff.mp r
  exact q.drop n
theorem Reps.ints:∀ {ns:List Int},Reps K O H (ns.map T.int) (ns.map V.int)
 | [] =>Reps.nil_
 | n::r=>Reps.cons_ (Rep.int_ n) Reps.ints
end
inductive OT where
 | lst (l:List T) | dct (ks ts:List T) | dd (ks:List T) (rows:List (List T×List T))
def OT.view:OT->T
 | .lst l=> .lst l
 | .dct ks ts=> .dct ks ts
 | .dd ks rows=> .dct ks (rows.map fun r=> .dct r.1 r.2)
def RowsR (K:PySem.W.Frag)(O:Ow)(H:Hp):List (List T×List T)->List Addr->Prop
 | [],as=>as= []
 | r::rs,as=> ∃b bs kvs,as=b::bs/\H b=some (.dT kvs)/\r.1.map aR=kvs.map (fun p=>some p.1)/\Reps K O H r.2 (kvs.map (·.2))/\RowsR K O H rs bs
def ORep (K:PySem.W.Frag)(O M:Ow)(H:Hp):OT->V->Prop
 | .lst l,v=> ∃a vs,v= .ref a/\(∀b,M b↔b=a)/\H a=some (.lst vs)/\Reps K O H l vs
 | .dct ks ts,v=> ∃a kvs,v= .ref a/\(∀b,M b↔b=a)/\H a=some (.dT kvs)/\ks.map aR=kvs.map (fun p=>some p.1)/\Reps K O H ts (kvs.map (·.2))
 | .dd ks rows,v=> ∃a kvs as,v= .ref a/\(∀b,M b↔b=a\/b∈as)/\a∉as/\as.Nodup/\H a=some (.dT kvs)/\ks.map aR=kvs.map (fun p=>some p.1)/\kvs.map (·.2)=as.map V.ref/\RowsR K O H rows as
inductive Sl where
 | em | va (t:T) | ow (o:OT)
abbrev En:=List Sl
abbrev Mn:=Nat->Ow
def Mn.u (M:Mn):Ow:=fun a=> ∃i,M i a
def Mtb (H:Hp)(a:Addr):Prop:=(∃vs,H a=some (.lst vs))\/∃ kvs,H a=some (.dT kvs)
theorem Mtb.some {H:Hp}{a:Addr}(h:Mtb H a):∃ o,H a=some o:=h.elim (fun⟨_,e⟩=>⟨_,e⟩) fun⟨_,e⟩=>⟨_,e⟩
theorem Mtb.same {H H':Hp}(s:Same H H'){a:Addr}(h:Mtb H a):Mtb H' a:=h.elim (fun⟨vs,e⟩=> .inl ⟨vs,s _ _ e⟩) fun⟨k,e⟩=> .inr ⟨k,s _ _ e⟩
structure EnvM (K:PySem.W.Frag)(O:Ow)(M:Mn)(H:Hp)(ρ:En)(σ:L2.St):Prop where
 len:ρ.length=σ.length
 val:∀ (i:Nat) (t:T),ρ[i]? =some (.va t)->∃ v,σ[i]? =some (some v)/\Rep K O H t v
 own:∀ (i:Nat) (o:OT),ρ[i]? =some (.ow o)->∃ v,σ[i]? =some (some v)/\ORep K O (M i) H o v
 sub:∀ (i:Nat) (a:Addr),M i a->O a
 dis:∀ (i j:Nat) (a:Addr),M i a->M j a->i=j
 trk:∀ (a:Addr),O a->Mtb H a
theorem RowsR.same {K:PySem.W.Frag}{O:Ow}{H H':Hp}(h:Same H H'):∀ {rs:List (List T×List T)} {as:List Addr},RowsR K O H rs as->RowsR K O H' rs as
 | [],_,r=>r
 | _::_,_,⟨b,bs,kvs,e1,e2,e3,e4,e5⟩=>⟨b,bs,kvs,e1,h _ _ e2,e3,e4.same h,e5.same h⟩
theorem ORep.same {K:PySem.W.Frag}{O M:Ow}{H H':Hp}(h:Same H H'){o:OT}{v:V}(r:ORep K O M H o v):ORep K O M H' o v:=by
 cases o with
 | lst l=>obtain⟨a,vs,e1,e2,e3,e4⟩:=r;exact⟨a,vs,e1,e2,h _ _ e3,e4.same h⟩
 | dct ks ts=>obtain⟨a,kvs,e1,e2,e3,e4,e5⟩:=r;exact⟨a,kvs,e1,e2,h _ _ e3,e4,e5.same h⟩
 | dd ks rows=>obtain⟨a,kvs,as,e1,e2,e3,e4,e5,e6,e7,e8⟩:=r;exact⟨a,kvs,as,e1,e2,e3,e4,h _ _ e5,e6,e7,e8.same h⟩
theorem EnvM.same {K:PySem.W.Frag}{O:Ow}{M:Mn}{H H':Hp}{ρ:En}{σ:L2.St}(h:Same H H')(e:EnvM K O M H ρ σ):EnvM K O M H' ρ σ where
 len:=e.len
 val:=fun i t q=>let ⟨v,e1,e2⟩:=e.val i t q;⟨v,e1,e2.same h⟩
 own:=fun i o q=>let ⟨v,e1,e2⟩:=e.own i o q;⟨v,e1,e2.same h⟩
 sub:=e.sub
 dis:=e.dis
 trk:=fun a q=>(e.trk a q).same h
def EnvO (K:PySem.W.Frag)(O:Ow)(H:Hp)(ρ:En)(σ:L2.St):Prop:=∃ M,EnvM K O M H ρ σ
section
variable {K:PySem.W.Frag}{O:Ow}{H H':Hp}{ρ:En}{σ:L2.St}
theorem EnvO.val (e:EnvO K O H ρ σ)(i:Nat)(t:T)(q:ρ[i]? =some (.va t)):∃ v,σ[i]? =some (some v)/\Rep K O H t v:=e.elim fun _ e=>e.val i t q
theorem EnvO.mtb (e:EnvO K O H ρ σ):∀ a,O a->Mtb H a:=e.elim fun _ e=>e.trk
theorem EnvO.trk (e:EnvO K O H ρ σ)(a:Addr)(z:O a):∃ o,H a=some o:=(e.mtb a z).some
theorem EnvO.same (h:Same H H')(e:EnvO K O H ρ σ):EnvO K O H' ρ σ:=e.elim fun M e=>⟨M,e.same h⟩
theorem EnvO.fresh (e:EnvO K O H ρ σ){p:Addr}(h:H p=none):¬ O p:=fun z=>by
 obtain⟨o,q⟩:=e.trk p z
 rw [h]at q;cases q
end
def Flt (h:Heap)(C e:Addr):Option Addr->Prop
 | none=> ∃oe vs,h.get? e=some oe/\oe.cls= .ref C/\oe.data= .fields vs/\vs[1]? =some .none
 | some T=>T≠e/\∃ oe vs,h.get? e=some oe/\oe.cls= .ref C/\oe.data= .fields vs/\vs[1]? =some (.ref T)/\∃ oT ts,h.get? T=some oT/\oT.data= .fields ts/\ts[3]? =some .none
def RzP (X:Cx)(pins:List (Addr×Obj))(P:Ow)(H:Hp)(c:Str)(ev:Value)(s':Shared):Prop:=
 ∃e T C σ' H',ev= .ref e/\X.mg c=some (.ref C)/\Inv X pins σ' H' s'/\SameO P H H'/\H' e=none/\(X.ex= []->X.s₀.heap.get? e=none)/\Flt s'.heap C e T/\(∀t,T=some t->H' t=none/\(X.ex= []->X.s₀.heap.get? t=none))/\∀ p∈X.pn++pins,p.1≠e/\T≠some p.1
def Nw (K:PySem.W.Frag)(H:Hp):Ow:=fun a=>H a=none/\K.lookup a=none
theorem gA {K:PySem.W.Frag}{P:Ow}{H H1:Hp}(h:SameO P H H1){a:Addr}(n:Nw K H1 a):P a\/Nw K H a:=by
 by_cases hp:P a
 ·exact .inl hp
 ·refine .inr ⟨?_,n.2⟩
  cases q:H a with
  | none=>rfl
  | some o=>have:=h a o q hp;rw [n.1]at this;cases this
theorem SameO.trans {K:PySem.W.Frag}{P P1:Ow}{H H1 H2:Hp}(h:SameO P H H1)(h1:SameO P1 H1 H2)(sub:∀ a,P1 a->P a\/Nw K H a):SameO P H H2:=fun b o e n=>
 h1 b o (h b o e n) fun z=>(sub b z).elim n fun w=>by rw [w.1]at e;cases e
def XA (X:Cx)(P:Ow)(H:Hp)(c:Str):Prop:=∀ pins ev s',RzP X pins P H c ev s'->X.xe ev s'
theorem XA.later {X:Cx}{P P1:Ow}{H H1:Hp}{c:Str}(h:XA X P H c)(s:SameO P H H1)(sub:∀ a,P1 a->P a\/Nw X.K H a):XA X P1 H1 c:=fun pins ev s' ⟨e,T,C,σ',H',a1,a2,a3,a4,a5⟩=>
 h pins ev s' ⟨e,T,C,σ',H',a1,a2,a3,s.trans a4 sub,a5⟩
abbrev no_:Ow:=fun _=>False
def Post {α:Type}(X:Cx)(H:Hp)(r:Rs α)(k:α->Hp->Prop):Prop:=match r with
 | .ok t=> ∀H',Same H H'->k t H'
 | .err c=>XA X no_ H c
 | .bad=>False
theorem Post.mono {α:Type}{X:Cx}{H:Hp}{r:Rs α}{k k':α->Hp->Prop}(h:Post X H r k)(f:∀ t H',Same H H'->k t H'->k' t H'):Post X H r k':=by
 cases r with
 | ok t=>exact fun H' s=>f t H' s (h H' s)
 | err c=>exact h
 | bad=>exact h
theorem Post.later {α:Type}{X:Cx}{H H1:Hp}{r:Rs α}{k:α->Hp->Prop}(h:Post X H r k)(s:Same H H1):Post X H1 r k:=by
 cases r with
 | ok t=>exact fun H' s'=>h H' (s.trans s')
 | err c=>exact XA.later h (SameO.of s) fun _ z=>z.elim
 | bad=>exact h
theorem Post.bind {α β:Type}{X:Cx}{H:Hp}{r:Rs α}{f:α->Rs β}{k:β->Hp->Prop}(h:Post X H (r >>= f) k):Post X H r fun t H'=>Post X H' (f t) k:=by
 cases r with
 | ok t=>exact fun H' s=>Post.later h s
 | err c=>exact h
 | bad=>exact h
def tP (X:Cx)(f:En->Rs T):TE:=fun σ H Q=> ∃ρ O,EnvO X.K O H ρ σ/\Post X H (f ρ) fun t H'=> ∀v,Rep X.K O H' t v->Q v H'
def tPA (X:Cx)(f:En->Rs (List T)):TA:=fun σ H Q=> ∃ρ O,EnvO X.K O H ρ σ/\Post X H (f ρ) fun t H'=> ∀v,Reps X.K O H' t v->Q v H'
def tPT (X:Cx)(f:En->Rs Bool):TT:=fun σ H Q=> ∃ρ O,EnvO X.K O H ρ σ/\Post X H (f ρ) fun b H'=>Q b H'
abbrev bZ (X:Cx)(e:Expr)(f:En->Rs T):Prop:=PE X e (tP X f)
abbrev PAt (X:Cx)(e:List Expr)(f:En->Rs (List T)):Prop:=PA X e (tPA X f)
abbrev PTt (X:Cx)(e:Expr)(f:En->Rs Bool):Prop:=PT X e (tPT X f)
theorem PE.imp {X:Cx}{e:Expr}{t t':TE}(h:PE X e t)(w:∀ σ H Q,t' σ H Q->t σ H Q):PE X e t':=fun pins s σ H Q I q=>h pins s σ H Q I (w σ H Q q)
theorem PA.imp {X:Cx}{e:List Expr}{t t':TA}(h:PA X e t)(w:∀ σ H Q,t' σ H Q->t σ H Q):PA X e t':=fun pos pins s σ H Q I q=>h pos pins s σ H Q I (w σ H Q q)
theorem PT.imp {X:Cx}{e:Expr}{t t':TT}(h:PT X e t)(w:∀ σ H Q,t' σ H Q->t σ H Q):PT X e t':=fun pins s σ H Q I q=>h pins s σ H Q I (w σ H Q q)
theorem PS.imp {X:Cx}{e:Stmt}{t t':TS}(h:PS X e t)(w:∀ D σ H,t' D σ H->t D σ H):PS X e t':=fun pins s σ H D I q=>h pins s σ H D I (w D σ H q)
theorem PSs.imp {X:Cx}{e:List Stmt}{t t':TS}(h:PSs X e t)(w:∀ D σ H,t' D σ H->t D σ H):PSs X e t':=fun pins s σ H D I q=>h pins s σ H D I (w D σ H q)
section
variable {X:Cx}
theorem aQ {σ:L2.St}{H:Hp}{ρ:En}{O:Ow}{α:Type}{f:En->Rs T}{k:T->Rs α}{Q:α->Hp->Prop}(E:EnvO X.K O H ρ σ)(h:Post X H (f ρ >>= k) Q) :
  tP X f σ H fun v H'=> ∃t,Rep X.K O H' t v/\Same H H'/\EnvO X.K O H' ρ σ/\Post X H' (k t) Q:=
 ⟨ρ,O,E,Post.mono h.bind fun t H' s q v r=>⟨t,r,s,E.same s,q⟩⟩
theorem fD {σ:L2.St}{H:Hp}{ρ:En}{O:Ow}{α:Type}{f:En->Rs (List T)}{k:List T->Rs α}{Q:α->Hp->Prop}(E:EnvO X.K O H ρ σ)(h:Post X H (f ρ >>= k) Q) :
  tPA X f σ H fun v H'=> ∃t,Reps X.K O H' t v/\Same H H'/\EnvO X.K O H' ρ σ/\Post X H' (k t) Q:=
 ⟨ρ,O,E,Post.mono h.bind fun t H' s q v r=>⟨t,r,s,E.same s,q⟩⟩
theorem tPT_bind {σ:L2.St}{H:Hp}{ρ:En}{O:Ow}{α:Type}{f:En->Rs Bool}{k:Bool->Rs α}{Q:α->Hp->Prop}(E:EnvO X.K O H ρ σ)(h:Post X H (f ρ >>= k) Q) :
  tPT X f σ H fun b H'=>Same H H'/\EnvO X.K O H' ρ σ/\Post X H' (k b) Q:=
 ⟨ρ,O,E,Post.mono h.bind fun t H' s q=>⟨s,E.same s,q⟩⟩
def vr (i:Nat)(ρ:En):Rs T:=match ρ[i]? with
 | some (.va t)=> .ok t
 | _=> .bad
def cn (t:T)(_:En):Rs T:=.ok t
theorem q_var (i:Nat){x:Str}{pos:Pos}(hN:X.N[i]? =some x:=by rfl)(hv:Vis X.env.scope x:=by first | exact Or.inl rfl | exact Or.inr (Or.inl rfl) | exact Or.inr (Or.inr rfl))(hd:(x == ("__debug__" : Str))=false:=by decide)
  (hcd:(x == ("__classdict__" : Str))=false:=by decide):bZ X (.Name x pos) (vr i):=PE.imp (gy hN hv hd hcd) fun σ H Q hh_=>by
 obtain⟨ρ,O,E,h⟩:=hh_
 unfold vr at h
 split at h
 ·rename_i t e
  obtain⟨v,e1,e2⟩:=E.val i t e
  exact⟨v,e1,h H (Same.refl H) v e2⟩
 ·exact h.elim
theorem q_int {i j pos}:bZ X (.Constant (.int i) j pos) (cn (.int i)):=PE.imp pe_int fun σ H Q ⟨ρ,O,E,h⟩=>h H (Same.refl H) _ (Rep.int_ i)
theorem q_bl {i j pos}:bZ X (.Constant (.bool i) j pos) (cn (.bl i)):=PE.imp pe_bl fun σ H Q ⟨ρ,O,E,h⟩=>h H (Same.refl H) _ (Rep.bl_ i)
theorem q_non {j pos}:bZ X (.Constant .none j pos) (cn .non):=PE.imp pe_non fun σ H Q ⟨ρ,O,E,h⟩=>h H (Same.refl H) _ Rep.non_
theorem q_str {i j pos}:bZ X (.Constant (.str i) j pos) (cn (.str i)):=PE.imp pe_str fun σ H Q ⟨ρ,O,E,h⟩=>h H (Same.refl H) _ (Rep.str_ i)
theorem q_gint {x:Str}{i:Int}{u:Value}{pos:Pos}(hm:X.mg x=some u)(r:RelV (.int i) u)(hg:Gl X x:=by rfl)(hd:(x == ("__debug__" : Str))=false:=by decide):bZ X (.Name x pos) (cn (.int i)):=
 PE.imp (pe_glob hg hm r hd) fun σ H Q ⟨ρ,O,E,h⟩=>h H (Same.refl H) _ (Rep.int_ i)
def ah (_:En):Rs (List T):=.ok []
def ac (f:En->Rs T)(g:En->Rs (List T))(ρ:En):Rs (List T):=do
 let t <-f ρ
 let r <-g ρ
 .ok (t::r)
theorem qa_nil:PAt X [] ah:=PA.imp db fun σ H Q ⟨ρ,O,E,h⟩=>h H (Same.refl H) _ Reps.nil_
theorem qa_cons {e:Expr}{es:List Expr}{f:En->Rs T}{g:En->Rs (List T)}(he:bZ X e f)(hr:PAt X es g)(hs:starEach (e::es) X.env=(false,eval e X.env)::starEach es X.env:=by rfl):PAt X (e::es) (ac f g):=by
 intro pos pins s σ H Q I h
 obtain⟨ρ,O,E,h⟩:=h
 refine a6 he hr hs pos pins s σ H Q I ?_
 obtain⟨ρ1,O1,E1,h1⟩:=aQ E h
 refine⟨ρ1,O1,E1,Post.mono h1 fun t H' s q v r=> ?_⟩
 obtain⟨t',r',s',E',q'⟩:=q v r
 refine⟨ρ,O,E',Post.mono q'.bind fun ts H2 s2 q2 vs rs=> ?_⟩
 exact q2 H2 (Same.refl H2) _ (Reps.cons_ (r'.same s2) rs)
end
section
variable {X:Cx}
def mkTup (l:List T):Rs T:=if l.length<=sizeLine then .ok (.tup l)else .bad
def mkLst (l:List T):Rs T:=if l.length<=sizeLine then .ok (.lst l)else .bad
def bi (f:En->Rs (List T))(ρ:En):Rs T:=f ρ >>= mkTup
def bY (f:En->Rs (List T))(ρ:En):Rs T:=f ρ >>= mkLst
theorem aS {H:Hp}{p:Addr}(h:H p=none)(o:HO):Same H (upd H p o):=fun b u q=>by rw [aA (bO q h)];exact q
theorem fJ {K:PySem.W.Frag}{O:Ow}{H:Hp}{p:Addr}{l:List T}{vs:List V}(h:H p=none)(n:¬ O p)(r:Reps K O H l vs):Rep K O (upd H p (.tup vs)) (.tup l) (.ref p):=
 Rep.tup_iff.mpr ⟨p,vs,rfl,n,aG,r.same (aS h _)⟩
theorem rep_newL {K:PySem.W.Frag}{O:Ow}{H:Hp}{p:Addr}{l:List T}{vs:List V}(h:H p=none)(n:¬ O p)(r:Reps K O H l vs):Rep K O (upd H p (.lst vs)) (.lst l) (.ref p):=
 Rep.lst_iff.mpr ⟨p,vs,rfl,n,aG,r.same (aS h _)⟩
theorem q_tup {es:List Expr}{x1:Nat}{pos:Pos}{f:En->Rs (List T)}(h:PAt X es f):bZ X (.Tuple es x1 pos) (bi f):=by
 intro pins s σ H Q I ⟨ρ,O,E,hq⟩
 refine pe_tup h pins s σ H Q I ?_
 obtain⟨ρ1,O1,E1,h1⟩:=fD E hq
 refine⟨ρ1,O1,E1,Post.mono h1 fun ts H1 s1 q vs r=> ?_⟩
 obtain⟨t',r',s',E',q'⟩:=q vs r
 unfold mkTup at q'
 split at q'
 ·rename_i hz
  refine⟨by rw [<-r'.length];exact hz,fun p hp=> ?_⟩
  exact q' _ (aS hp _) _ (fJ hp (E'.fresh hp) r')
 ·exact q'.elim
theorem q_lst {es:List Expr}{pos:Pos}{f:En->Rs (List T)}(h:PAt X es f):bZ X (.List es pos) (bY f):=by
 intro pins s σ H Q I ⟨ρ,O,E,hq⟩
 refine pe_lst h pins s σ H Q I ?_
 obtain⟨ρ1,O1,E1,h1⟩:=fD E hq
 refine⟨ρ1,O1,E1,Post.mono h1 fun ts H1 s1 q vs r=> ?_⟩
 obtain⟨t',r',s',E',q'⟩:=q vs r
 unfold mkLst at q'
 split at q'
 ·rename_i hz
  refine⟨by rw [<-r'.length];exact hz,fun p hp=> ?_⟩
  exact q' _ (aS hp _) _ (rep_newL hp (E'.fresh hp) r')
 ·exact q'.elim
def OpT (X:Cx)(f:Value->Value->Sem Value)(g:T->T->Rs T):Prop:=
 ∀(pins:List (Addr×Obj)) (s:Shared) (σ:L2.St) (H:Hp) (O:Ow) (x y:T) (vx vy:V) (ux uy:Value) (Q:VK),Inv X pins σ H s->(∀p,H p=none->¬ O p)->Rep X.K O H x vx->Rep X.K O H y vy->RelV vx ux->RelV vy uy →
  Post X H (g x y) (fun t H'=> ∀v,Rep X.K O H' t v->Q v H')->wpAny (model X.prog X.w) X.A (f ux uy) (EP X pins σ Q) X.xe s
def o2 (g:T->T->Rs T)(fa fb:En->Rs T)(ρ:En):Rs T:=do
 let x <-fa ρ
 let y <-fb ρ
 g x y
variable {a b c:Expr}{fa fb fc:En->Rs T}{pos:Pos}
theorem q_bin {op:Operator}{g:T->T->Rs T}(ho:OpT X (binaryOp op) g)(ha:bZ X a fa)(hb:bZ X b fb):bZ X (.BinOp a op b pos) (o2 g fa fb):=by
 intro pins s σ H Q I ⟨ρ,O,E,hq⟩
 have h1:=aQ E hq
 refine wpAny_BinOp (bK (ha pins s σ H _ I h1) fun v s1 hh_=> ?_)
 obtain⟨x,H1,I1,r1,t,rt,s',E',q1⟩:=hh_
 have h2:=aQ (f:=fb) E' q1
 refine bK (hb pins s1 σ H1 _ I1 h2) fun u s2 hh_=> ?_
 obtain⟨y,H2,I2,r2,t2,rt2,s'',E'',q2⟩:=hh_
 exact ho pins s2 σ H2 O t t2 x y v u Q I2 (fun p=>E''.fresh) (rt.same s'') rt2 r1 r2 q2
theorem q_cmp {op:CmpOp}{g:T->T->Rs T}(ho:OpT X (compareOp op) g)(ha:bZ X a fa)(hb:bZ X b fb)(hm:behindInMarks op b=false:=by rfl):bZ X (.Compare a [op] [b] pos) (o2 g fa fb):=by
 intro pins s σ H Q I ⟨ρ,O,E,hq⟩
 have h1:=aQ E hq
 refine wpAny_Compare1 (bK (ha pins s σ H _ I h1) fun v s1 ⟨x,H1,I1,r1,t,rt,s',E',q1⟩=> ?_) hm
 have h2:=aQ (f:=fb) E' q1
 refine bK (hb pins s1 σ H1 _ I1 h2) fun u s2 hh_=> ?_
 obtain⟨y,H2,I2,r2,t2,rt2,s'',E'',q2⟩:=hh_
 exact ho pins s2 σ H2 O t t2 x y v u Q I2 (fun p=>E''.fresh) (rt.same s'') rt2 r1 r2 q2
theorem OpT.of {f:Value->Value->Sem Value}{r:R2}(h:OpR X f r){g:T->T->Rs T}
  (w:∀ (H:Hp) (O:Ow) (x y:T) (vx vy:V) (Q:VK),(∀p,H p=none->¬ O p)->Rep X.K O H x vx->Rep X.K O H y vy->Post X H (g x y) (fun t H'=> ∀v,Rep X.K O H' t v->Q v H')->r vx vy H Q):OpT X f g:=
 fun pins s σ H O x y vx vy ux uy Q I hf rx ry r1 r2 hp=>h pins s σ H vx vy ux uy Q I r1 r2 (w H O x y vx vy Q hf rx ry hp)
def dG:T->T->Rs T
 | .int i,.int j=> .ok (.int (i - j))
 | _,_=> .bad
theorem dJ:OpT X (binaryOp .Sub) dG:=OpT.of op_sub fun H O x y vx vy Q hf rx ry hp=>by
 unfold dG at hp
 split at hp
 ·exact⟨_,_,Rep.int_iff.mp rx,Rep.int_iff.mp ry,hp H (Same.refl H) _ (Rep.int_ _)⟩
 ·exact hp.elim
def fdivT:T->T->Rs T
 | .int i,.int j=>if 0<j/\j<1073741824 then .ok (.int (i / j))else .bad
 | _,_=> .bad
def modT:T->T->Rs T
 | .int i,.int j=>if 0<j then .ok (.int (i % j))else .bad
 | _,_=> .bad
theorem ot_fdiv:OpT X (binaryOp .FloorDiv) fdivT:=OpT.of op_fdiv fun H O x y vx vy Q hf rx ry hp=>by
 unfold fdivT at hp
 split at hp
 ·split at hp
  ·rename_i h
   exact⟨_,_,Rep.int_iff.mp rx,Rep.int_iff.mp ry,h,hp H (Same.refl H) _ (Rep.int_ _)⟩
  ·exact hp.elim
 ·exact hp.elim
theorem ot_mod:OpT X (binaryOp .Mod) modT:=OpT.of op_mod fun H O x y vx vy Q hf rx ry hp=>by
 unfold modT at hp
 split at hp
 ·split at hp
  ·rename_i h
   exact⟨_,_,Rep.int_iff.mp rx,Rep.int_iff.mp ry,h,hp H (Same.refl H) _ (Rep.int_ _)⟩
  ·exact hp.elim
 ·exact hp.elim
theorem op_catT0:OpR X (binaryOp .Add) (fun x y H Q=> ∃a b ys,x= .ref a/\y= .ref b/\SqT X.K H a []/\SqT X.K H b ys/\Q (.ref b) H):=by
 intro pins s σ H x y v u Q I rx ry h
 obtain⟨a,b,ys,rfl,rfl,ha,hb,q⟩:=h
 cases rx
 cases ry
 obtain⟨its,r1,p1,_⟩:=I.tuple ha
 obtain⟨its2,r2,p2,_⟩:=I.tuple hb
 obtain⟨⟨cls,dd,data,sl⟩,ho,hc,n,hd⟩:=id p1
 obtain⟨⟨cls2,dd2,data2,sl2⟩,ho2,hc2,n2,hd2⟩:=id p2
 simp only at hc hd hc2 hd2
 subst hc hd hc2 hd2
 have e:its= []:=by cases r1;rfl
 subst e
 exact HT_concat0 ho ho2 ⟨.ref b,H,I,rfl,q⟩
where
 HT_concat0 {prog:Program} {w:World} {A:Around} {E:Value->Shared->Prop} {s:Shared} {t b:Addr} {ws:Array Value} {n n2:Nat} {dd dd2:Option Addr} {sl sl2:Array (Option Value)} {Q:Value->Shared->Prop}
   (ho:s.heap.get? t=some { cls:=.type "tuple",dict:=dd,data:=.seq (([]:List Value).toArray) n,slots:=sl }) (ho2:s.heap.get? b=some { cls:=.type "tuple",dict:=dd2,data:=.seq ws n2,slots:=sl2 }) (h:Q (.ref b) s) :
   wpAny (model prog w) A (binaryOp .Add (.ref t) (.ref b)) Q E s:=
  concat_meets ⟨_,ho,rfl⟩ ⟨_,ho2,rfl⟩ noFill_tuple_add seq_tuple_add PySem.F.slot_tuple_add PySem.F.entry_tuple_add (PySem.F.args_tuple_add_2 _ _)
   (tuple_addW0 t b _ _ n n2 dd dd2 sl sl2 (by simp)) ⟨ho,ho2,h⟩
def aI:T->T->Rs T
 | .int i,.int j=> .ok (.int (i+j))
 | .str i,.str j=>if i.length+j.length<=sizeLine then .ok (.str (i++j))else .bad
 | .tup l,.tup m=>mkTup (l++m)
 | .lst l,.lst m=>mkLst (l++m)
 | _,_=> .bad
theorem aH:OpT X (binaryOp .Add) aI:=by
 intro pins s σ H O x y vx vy ux uy Q I hf rx ry r1 r2 hp
 unfold aI at hp
 split at hp
 ·exact op_add pins s σ H vx vy ux uy Q I r1 r2 ⟨_,_,Rep.int_iff.mp rx,Rep.int_iff.mp ry,hp H (Same.refl H) _ (Rep.int_ _)⟩
 ·split at hp
  ·rename_i h
   exact op_add_str pins s σ H vx vy ux uy Q I r1 r2 ⟨_,_,Rep.str_iff.mp rx,Rep.str_iff.mp ry,h,hp H (Same.refl H) _ (Rep.str_ _)⟩
  ·exact hp.elim
 ·rename_i l m
  unfold mkTup at hp
  split at hp
  ·rename_i h
   obtain⟨a,vs,e1,n1,q1,z1⟩:=Rep.tup_iff.mp rx
   obtain⟨b,ws,e2,n2,q2,z2⟩:=Rep.tup_iff.mp ry
   have hl1:=z1.length
   have hl2:=z2.length
   rw [List.length_append]at h
   cases vs with
   | nil=>
    have e:l= []:=by cases l with
     | nil=>rfl
     | cons _ _=>simp at hl1
    subst e
    exact op_catT0 pins s σ H vx vy ux uy Q I r1 r2 ⟨a,b,ws,e1,e2,SqT.of q1,SqT.of q2,hp H (Same.refl H) _ (Rep.tup_iff.mpr ⟨b,ws,rfl,n2,q2,z2⟩)⟩
   | cons v0 vr=>
    refine op_catT pins s σ H vx vy ux uy Q I r1 r2 ⟨a,b,v0::vr,ws,e1,e2,SqT.of q1,SqT.of q2,by simp,by omega,fun hw=> ?_,fun _ p hpn=> ?_⟩
    ·subst hw
     have e:m= []:=by cases m with
      | nil=>rfl
      | cons _ _=>simp at hl2
     subst e
     rw [List.append_nil]at hp
     exact hp H (Same.refl H) _ (Rep.tup_iff.mpr ⟨a,_,rfl,n1,q1,z1⟩)
    ·exact hp _ (aS hpn _) _ (fJ hpn (hf p hpn) (z1.append z2))
  ·exact hp.elim
 ·rename_i l m
  unfold mkLst at hp
  split at hp
  ·rename_i h
   obtain⟨a,vs,e1,n1,q1,z1⟩:=Rep.lst_iff.mp rx
   obtain⟨b,ws,e2,n2,q2,z2⟩:=Rep.lst_iff.mp ry
   have hl1:=z1.length
   have hl2:=z2.length
   rw [List.length_append]at h
   exact op_cat pins s σ H vx vy ux uy Q I r1 r2 ⟨a,b,vs,ws,e1,e2,q1,q2,by omega,fun p hpn=>hp _ (aS hpn _) _ (rep_newL hpn (hf p hpn) (z1.append z2))⟩
  ·exact hp.elim
 ·exact hp.elim
def mulT:T->T->Rs T
 | .int i,.int j=>if (-(2 ^ 64)<i/\i<2 ^ 64)\/(-(2 ^ 64)<j/\j<2 ^ 64)then .ok (.int (i*j))else .bad
 | .lst l,.int k=>if -(2 ^ 63)<=k/\k<2 ^ 63/\l.length*k.toNat<=sizeLine then .ok (.lst (List.replicate k.toNat l).flatten)else .bad
 | _,_=> .bad
theorem Reps.rep {K:PySem.W.Frag}{O:Ow}{H:Hp}{l:List T}{vs:List V}(h:Reps K O H l vs):∀ k:Nat,Reps K O H (List.replicate k l).flatten (List.replicate k vs).flatten
 | 0=>Reps.nil_
 | k+1=>by rw [List.replicate_succ,List.replicate_succ,List.flatten_cons,List.flatten_cons];exact h.append (h.rep k)
theorem ot_mul:OpT X (binaryOp .Mult) mulT:=by
 intro pins s σ H O x y vx vy ux uy Q I hf rx ry r1 r2 hp
 unfold mulT at hp
 split at hp
 ·split at hp
  ·rename_i h
   exact op_mul pins s σ H vx vy ux uy Q I r1 r2 ⟨_,_,Rep.int_iff.mp rx,Rep.int_iff.mp ry,h,hp H (Same.refl H) _ (Rep.int_ _)⟩
  ·exact hp.elim
 ·split at hp
  ·rename_i l k h
   obtain⟨a,vs,e1,n1,q1,z1⟩:=Rep.lst_iff.mp rx
   have hl1:=z1.length
   exact op_rep pins s σ H vx vy ux uy Q I r1 r2 ⟨a,k,vs,e1,Rep.int_iff.mp ry,q1,h.1,h.2.1,by rw [<-hl1];exact h.2.2,fun p hpn=>hp _ (aS hpn _) _ (rep_newL hpn (hf p hpn) (z1.rep _))⟩
  ·exact hp.elim
 ·exact hp.elim
def negT:T->Rs T
 | .int i=> .ok (.int (-i))
 | _=> .bad
def o1 (g:T->Rs T)(fa:En->Rs T)(ρ:En):Rs T:=fa ρ >>= g
theorem q_neg (ha:bZ X a fa):bZ X (.UnaryOp .USub a pos) (o1 negT fa):=by
 intro pins s σ H Q I ⟨ρ,O,E,hq⟩
 refine pe_un un_neg ha pins s σ H Q I ?_
 obtain⟨ρ1,O1,E1,h1⟩:=aQ E hq
 refine⟨ρ1,O1,E1,Post.mono h1 fun ts H1 s1 q vs r=> ?_⟩
 obtain⟨t',r',s',E',q'⟩:=q vs r
 unfold negT at q'
 split at q'
 ·exact⟨_,Rep.int_iff.mp r',q' H1 (Same.refl H1) _ (Rep.int_ _)⟩
 ·exact q'.elim
def cmpI (p:Int->Int->Bool):T->T->Rs T
 | .int i,.int j=> .ok (.bl (p i j))
 | _,_=> .bad
theorem ot_cmpI {op:CmpOp}{p:Int->Int->Bool}(h:OpR X (compareOp op) (rI0 fun i j=> .bl (p i j))):OpT X (compareOp op) (cmpI p):=OpT.of h fun H O x y vx vy Q hf rx ry hp=>by
 unfold cmpI at hp
 split at hp
 ·exact⟨_,_,Rep.int_iff.mp rx,Rep.int_iff.mp ry,hp H (Same.refl H) _ (Rep.bl_ _)⟩
 ·exact hp.elim
abbrev ltT:=cmpI fun i j=>decide (i<j)
abbrev leT:=cmpI fun i j=>decide (i<=j)
theorem ot_lt:OpT X (compareOp .Lt) ltT:=ot_cmpI op_lt
theorem ot_le:OpT X (compareOp .LtE) leT:=ot_cmpI op_le
def T.isN:T->Bool
 | .non=>true
 | _=>false
theorem Rep.isN {K:PySem.W.Frag}{O:Ow}{H:Hp}{t:T}{v:V}(r:Rep K O H t v):decide (v= .non)=t.isN:=by
 cases t with
 | non=>rw [Rep.non_iff.mp r];rfl
 | bl _=>rw [Rep.bl_iff.mp r];rfl
 | int _=>rw [Rep.int_iff.mp r];rfl
 | str _=>rw [Rep.str_iff.mp r];rfl
 | tup _=>obtain⟨a,vs,e,_⟩:=Rep.tup_iff.mp r;rw [e];rfl
 | lst _=>obtain⟨a,vs,e,_⟩:=Rep.lst_iff.mp r;rw [e];rfl
 | scr _=>unfold Rep at r;obtain⟨a,e,_⟩:=r;rw [e];rfl
 | dct _ _=>obtain⟨a,_,e,_⟩:=Rep.dct_iff.mp r;rw [e];rfl
def gg:T->T->Rs T
 | x,.non=> .ok (.bl x.isN)
 | _,_=> .bad
def cM:T->T->Rs T
 | x,.non=> .ok (.bl (!x.isN))
 | _,_=> .bad
theorem ot_is:OpT X (compareOp .Is) gg:=OpT.of op_isN fun H O x y vx vy Q hf rx ry hp=>by
 unfold gg at hp
 split at hp
 ·exact⟨Rep.non_iff.mp ry,hp H (Same.refl H) _ (by rw [rx.isN];exact Rep.bl_ _)⟩
 ·exact hp.elim
theorem dL:OpT X (compareOp .IsNot) cM:=OpT.of op_notN fun H O x y vx vy Q hf rx ry hp=>by
 unfold cM at hp
 split at hp
 ·exact⟨Rep.non_iff.mp ry,hp H (Same.refl H) _ (by rw [rx.isN];exact Rep.bl_ _)⟩
 ·exact hp.elim
end
end Tr
namespace Tr
open PySem PySem.Spec PyProof.Rows L2
open PySem.SeqAt
mutual
def ReV (s:Shared):T->Value->Prop
 | .non,u=>u= .none
 | .bl b,u=>u= .bool b
 | .int i,u=> ∃t,u= .int i t
 | .str x,u=> ∃t,u= .str x t
 | .tup l,u=> ∃a its,u= .ref a/\s.heap.IsTuple a (List.toArray its)/\ReVs s l its
 | .lst l,u=> ∃a its,u= .ref a/\s.heap.IsList a (List.toArray its)/\ReVs s l its
 | .scr l,u=> ∃a its,u= .ref a/\s.heap.IsList a (List.toArray its)/\IntsAre its l
 | .dct _ _,_=>False
def ReVs (s:Shared):List T->List Value->Prop
 | [],us=>us= []
 | t::r,us=> ∃u ws,us=u::ws/\ReV s t u/\ReVs s r ws
end
theorem ReVs.nil_iff {s:Shared}{us:List Value}:ReVs s [] us↔us= []:=by unfold ReVs;exact Iff.rfl
theorem ReVs.cons_iff {s:Shared}{t:T}{l:List T}{us:List Value}:ReVs s (t::l) us↔ ∃u ws,us=u::ws/\ReV s t u/\ReVs s l ws:=by
 constructor
 ·intro h;unfold ReVs at h;exact h
 ·intro h;unfold ReVs;exact h
theorem ReVs.length {s:Shared}:∀ {l:List T} {us:List Value},ReVs s l us->l.length=us.length
 | [],us,r=>by rw [ReVs.nil_iff.mp r];rfl
 | t::l,us,r=>by
  obtain⟨v,ws,rfl,_,q⟩:=ReVs.cons_iff.mp r
  simp [q.length]
theorem ReVs.get {s:Shared}:∀ {l:List T} {us:List Value} {i:Nat} {t:T},ReVs s l us->l[i]? =some t->∃ v,us[i]? =some v/\ReV s t v
 | [],_,_,_,_,e=>by simp at e
 | t::l,vs,i,u,r,e=>by
  obtain⟨v,ws,rfl,p,q⟩:=ReVs.cons_iff.mp r
  cases i with
  | zero=>simp at e;subst e;exact⟨v,rfl,p⟩
  | succ i=>
   obtain⟨z,e1,e2⟩:=q.get (i:=i) (t:=u) (by simpa using e)
   exact⟨z,by simpa using e1,e2⟩
mutual
def T.nd:T->Bool
 | .dct _ _=>false
 | .tup l=>nds l
 | .lst l=>nds l
 | _=>true
def nds:List T->Bool
 | [] =>true
 | t::l=>t.nd&&nds l
end
theorem nds_cons {t:T}{l:List T}(h:nds (t::l)=true):t.nd=true/\nds l=true:=by unfold nds at h;exact Bool.and_eq_true_iff.mp h
theorem nds_of:∀ {l:List T},(∀t∈l,t.nd=true)->nds l=true
 | [],_=>rfl
 | t::l,h=>by unfold nds;rw [h t List.mem_cons_self,nds_of fun u hu=>h u (List.mem_cons_of_mem _ hu)];rfl
section
variable {X:Cx}{pins:List (Addr×Obj)}{σ:L2.St}{H:Hp}{s:Shared}{O:Ow}
mutual
theorem Rep.val (I:Inv X pins σ H s):∀ {t:T} {v:V} {u:Value},t.nd=true->Rep X.K O H t v->RelV v u->ReV s t u
 | .non,v,u,hn,r,q=>by cases Rep.non_iff.mp r;unfold ReV;exact q
 | .bl b,v,u,hn,r,q=>by cases Rep.bl_iff.mp r;unfold ReV;exact q
 | .int b,v,u,hn,r,q=>by cases Rep.int_iff.mp r;unfold ReV;exact q
 | .str b,v,u,hn,r,q=>by cases Rep.str_iff.mp r;unfold ReV;exact q
 | .tup l,v,u,hn,r,q=>by
  obtain⟨a,vs,rfl,_,z,w⟩:=Rep.tup_iff.mp r
  cases q
  obtain⟨its,rv,p,_⟩:=I.tuple (SqT.of z)
  unfold ReV
  exact⟨a,its,rfl,p,Reps.val I (by unfold T.nd at hn;exact hn) w rv⟩
 | .lst l,v,u,hn,r,q=>by
  obtain⟨a,vs,rfl,_,z,w⟩:=Rep.lst_iff.mp r
  cases q
  obtain⟨its,rv,p,_⟩:=I.list (SqL.of z)
  unfold ReV
  exact⟨a,its,rfl,p.isList,Reps.val I (by unfold T.nd at hn;exact hn) w rv⟩
 | .scr l,v,u,hn,r,q=>by
  unfold Rep at r
  obtain⟨a,rfl,_,z⟩:=r
  cases q
  obtain⟨its,rv,p,_⟩:=I.list z
  unfold ReV
  exact⟨a,its,rfl,p.isList,intsAre_of rv⟩
 | .dct _ _,v,u,hn,r,q=>by cases hn
theorem Reps.val (I:Inv X pins σ H s):∀ {l:List T} {vs:List V} {us:List Value},nds l=true->Reps X.K O H l vs->Vals vs us->ReVs s l us
 | [],vs,us,hn,r,q=>by
  cases Reps.nil_iff.mp r
  cases q
  exact ReVs.nil_iff.mpr rfl
 | t::l,vs,us,hn,r,q=>by
  obtain⟨v,ws,rfl,p,z⟩:=Reps.cons_iff.mp r
  cases q with
  | cons q1 q2=>exact ReVs.cons_iff.mpr ⟨_,_,rfl,Rep.val I (nds_cons hn).1 p q1,Reps.val I (nds_cons hn).2 z q2⟩
end
end
mutual
def T.dep:T->Nat
 | .tup l=>deps l+1
 | .lst l=>deps l+1
 | .scr _=>1
 | _=>0
def deps:List T->Nat
 | [] =>0
 | t::l=>max t.dep (deps l)
end
def beqI (i:Int):T->Bool
 | .int j=>i == j
 | .bl b=>i == (if b then 1 else 0)
 | _=>false
def beqSc:List Int->List T->Bool
 | [],[] =>true
 | i::r,t::l=>beqI i t&&beqSc r l
 | _,_=>false
mutual
def aW:T->T->Bool
 | .non,.non=>true
 | .bl a,.bl b=>a == b
 | .bl a,.int b=>(if a then 1 else 0) == b
 | .int a,.bl b=>a == (if b then 1 else 0)
 | .int a,.int b=>a == b
 | .str a,.str b=>a == b
 | .tup l,.tup m=>beqTs l m
 | .lst l,.lst m=>beqTs l m
 | .lst l,.scr m=>beqTs l (m.map .int)
 | .scr l,.lst m=>beqSc l m
 | .scr l,.scr m=>l == m
 | _,_=>false
def beqTs:List T->List T->Bool
 | [],[] =>true
 | t::l,u::m=>aW t u&&beqTs l m
 | _,_=>false
end
theorem all_range_succ (n:Nat)(e:Nat->Bool):(List.range (n+1)).all e=(e 0&&(List.range n).all fun j=>e (j+1)):=by
 rw [List.range_succ_eq_map,List.all_cons,List.all_map];rfl
theorem beqTs_all:∀ (l m:List T) (e:Nat->Bool),(∀(j:Nat) t u,l[j]? =some t->m[j]? =some u->e j=aW t u) →
  beqTs l m=((List.range (min l.length m.length)).all e&&l.length == m.length)
 | [],[],_,_=>by simp [beqTs]
 | [],_::_,_,_=>by simp [beqTs]
 | _::_,[],_,_=>by simp [beqTs]
 | t::l,u::m,e,h=>by
  have ih:=beqTs_all l m (fun j=>e (j+1)) fun j t' u' h1 h2=>h (j+1) t' u' (by simpa using h1) (by simpa using h2)
  rw [beqTs,ih]
  have h0:=h 0 t u rfl rfl
  simp only [List.length_cons]
  rw [Nat.succ_min_succ,all_range_succ,h0,Bool.and_assoc]
  congr 2
  simp
theorem beqTs_len:∀ {l m:List T},l.length≠m.length->beqTs l m=false
 | [],[],h=>absurd rfl h
 | [],_::_,_=>by simp [beqTs]
 | _::_,[],_=>by simp [beqTs]
 | t::l,u::m,h=>by
  rw [beqTs,beqTs_len (l:=l) (m:=m) (by intro z;exact h (by simp [z]))]
  simp
theorem deps_get:∀ {l:List T} {i:Nat} {t:T},l[i]? =some t->t.dep<=deps l
 | [],_,_,e=>by simp at e
 | t::l,0,u,e=>by simp at e;subst e;unfold deps;exact Nat.le_max_left _ _
 | t::l,i+1,u,e=>by
  have:=deps_get (l:=l) (i:=i) (t:=u) (by simpa using e)
  unfold deps
  exact Nat.le_trans this (Nat.le_max_right _ _)
theorem isTuple_inj {s:Shared}{a:Addr}{x y:List Value}(h:s.heap.IsTuple a x.toArray)(h':s.heap.IsTuple a y.toArray):x=y:=by
 obtain⟨o,e,_,n,d⟩:=h
 obtain⟨o',e',_,n',d'⟩:=h'
 rw [e]at e';cases e'
 rw [d]at d'
 injection d' with d1 _
 simpa using congrArg Array.toList d1
theorem cz {s:Shared}{a:Addr}{x y:List Value}(h:s.heap.IsList a x.toArray)(h':s.heap.IsList a y.toArray):x=y:=by
 obtain⟨o,e,_,n,d⟩:=h
 obtain⟨o',e',_,n',d'⟩:=h'
 rw [e]at e';cases e'
 rw [d]at d'
 injection d' with d1 _
 simpa using congrArg Array.toList d1
theorem beqI_refl {s:Shared}{i:Int}{t:T}{k:Tok}(r:ReV s t (.int i k)):beqI i t=true:=by
 cases t with
 | non=>unfold ReV at r;cases r
 | bl b=>unfold ReV at r;cases r
 | int j=>unfold ReV at r;obtain⟨t,e⟩:=r;injection e with e1 _;subst e1;simp [beqI]
 | str x=>unfold ReV at r;obtain⟨t,e⟩:=r;cases e
 | tup l=>unfold ReV at r;obtain⟨a,its,e,_⟩:=r;cases e
 | lst l=>unfold ReV at r;obtain⟨a,its,e,_⟩:=r;cases e
 | scr l=>unfold ReV at r;obtain⟨a,its,e,_⟩:=r;cases e
 | dct _ _=>unfold ReV at r;exact r.elim
theorem beqSc_refl {s:Shared}:∀ {ns:List Int} {us:List Value} {l:List T},IntsAre us ns->ReVs s l us->beqSc ns l=true
 | [],us,l,h,r=>by
  cases h
  cases l with
  | nil=>rfl
  | cons t l=>obtain⟨_,_,e,_⟩:=ReVs.cons_iff.mp r;cases e
 | n::ns,us,l,h,r=>by
  cases h with
  | cons a b hh=>
   cases l with
   | nil=>have:=ReVs.nil_iff.mp r;cases this
   | cons t l=>
    obtain⟨u,ws,e,p,q⟩:=ReVs.cons_iff.mp r
    injection e with e1 e2
    subst e1 e2
    rw [beqSc,beqI_refl p,beqSc_refl hh q];rfl
theorem dz {s:Shared}:∀ {us:List Value} {ns:List Int},IntsAre us ns->ReVs s (ns.map T.int) us
 | _,_,.nil=>ReVs.nil_iff.mpr rfl
 | _,_,.cons n t h=>ReVs.cons_iff.mpr ⟨_,_,rfl,by unfold ReV;exact⟨_,rfl⟩,dz h⟩
theorem intsAre_inj:∀ {us:List Value} {ns ms:List Int},IntsAre us ns->IntsAre us ms->ns=ms
 | _,_,_,.nil,.nil=>rfl
 | _,_,_,.cons n t h,.cons _ _ h'=>by rw [intsAre_inj h h']
mutual
theorem ReV.refl {s:Shared}:∀ {t u:T} {v:Value},ReV s t v->ReV s u v->aW t u=true
 | .non,u,v,r,q=>by
  unfold ReV at r;subst r
  cases u <;> (unfold ReV at q) <;> first | rfl | (cases q;done) | (obtain⟨_,e⟩:=q;cases e;done) | (obtain⟨_,_,e,_⟩:=q;cases e;done)
 | .bl b,u,v,r,q=>by
  unfold ReV at r;subst r
  cases u <;> (unfold ReV at q) <;> first | (cases q;done) | (cases q;simp [aW];done) | (obtain⟨_,e⟩:=q;cases e;done) | (obtain⟨_,_,e,_⟩:=q;cases e;done)
 | .int b,u,v,r,q=>by
  unfold ReV at r;obtain⟨k,rfl⟩:=r
  cases u <;> (unfold ReV at q) <;> first | (cases q;done) | (obtain⟨_,e⟩:=q;cases e;simp [aW];done) | (obtain⟨_,e⟩:=q;cases e;done) | (obtain⟨_,_,e,_⟩:=q;cases e;done)
 | .str b,u,v,r,q=>by
  unfold ReV at r;obtain⟨k,rfl⟩:=r
  cases u <;> (unfold ReV at q) <;> first | (cases q;done) | (obtain⟨_,e⟩:=q;cases e;simp [aW];done) | (obtain⟨_,e⟩:=q;cases e;done) | (obtain⟨_,_,e,_⟩:=q;cases e;done)
 | .tup l,u,v,r,q=>by
  unfold ReV at r;obtain⟨a,its,rfl,h1,h2⟩:=r
  cases u with
  | non=>unfold ReV at q;cases q
  | dct _ _=>unfold ReV at q;exact q.elim
  | bl _=>unfold ReV at q;cases q
  | int _=>unfold ReV at q;obtain⟨_,e⟩:=q;cases e
  | str _=>unfold ReV at q;obtain⟨_,e⟩:=q;cases e
  | tup m=>
   unfold ReV at q;obtain⟨a',its',e,h1',h2'⟩:=q
   injection e with e;subst e
   have:=isTuple_inj h1 h1';subst this
   unfold aW
   exact ReVs.refl h2 h2'
  | lst m=>unfold ReV at q;obtain⟨a',its',e,h1',h2'⟩:=q;injection e with e;subst e;exact absurd rfl (ne_of_list_tuple h1' h1)
  | scr m=>unfold ReV at q;obtain⟨a',its',e,h1',h2'⟩:=q;injection e with e;subst e;exact absurd rfl (ne_of_list_tuple h1' h1)
 | .lst l,u,v,r,q=>by
  unfold ReV at r;obtain⟨a,its,rfl,h1,h2⟩:=r
  cases u with
  | non=>unfold ReV at q;cases q
  | dct _ _=>unfold ReV at q;exact q.elim
  | bl _=>unfold ReV at q;cases q
  | int _=>unfold ReV at q;obtain⟨_,e⟩:=q;cases e
  | str _=>unfold ReV at q;obtain⟨_,e⟩:=q;cases e
  | lst m=>
   unfold ReV at q;obtain⟨a',its',e,h1',h2'⟩:=q
   injection e with e;subst e
   have:=cz h1 h1';subst this
   unfold aW
   exact ReVs.refl h2 h2'
  | tup m=>unfold ReV at q;obtain⟨a',its',e,h1',h2'⟩:=q;injection e with e;subst e;exact absurd rfl (ne_of_list_tuple h1 h1')
  | scr m=>
   unfold ReV at q;obtain⟨a',its',e,h1',h2'⟩:=q
   injection e with e;subst e
   have:=cz h1 h1';subst this
   unfold aW
   exact ReVs.refl h2 (dz h2')
 | .scr l,u,v,r,q=>by
  unfold ReV at r;obtain⟨a,its,rfl,h1,h2⟩:=r
  cases u with
  | non=>unfold ReV at q;cases q
  | dct _ _=>unfold ReV at q;exact q.elim
  | bl _=>unfold ReV at q;cases q
  | int _=>unfold ReV at q;obtain⟨_,e⟩:=q;cases e
  | str _=>unfold ReV at q;obtain⟨_,e⟩:=q;cases e
  | lst m=>
   unfold ReV at q;obtain⟨a',its',e,h1',h2'⟩:=q
   injection e with e;subst e
   have:=cz h1 h1';subst this
   unfold aW
   exact beqSc_refl h2 h2'
  | tup m=>unfold ReV at q;obtain⟨a',its',e,h1',h2'⟩:=q;injection e with e;subst e;exact absurd rfl (ne_of_list_tuple h1 h1')
  | scr m=>
   unfold ReV at q;obtain⟨a',its',e,h1',h2'⟩:=q
   injection e with e;subst e
   have:=cz h1 h1';subst this
   unfold aW
   have:=intsAre_inj h2 h2'
   simp [this]
 | .dct _ _,u,v,r,q=>by unfold ReV at r;exact r.elim
theorem ReVs.refl {s:Shared}:∀ {l m:List T} {us:List Value},ReVs s l us->ReVs s m us->beqTs l m=true
 | [],m,us,r,q=>by
  cases ReVs.nil_iff.mp r
  cases m with
  | nil=>simp [beqTs]
  | cons _ _=>obtain⟨_,_,e,_⟩:=ReVs.cons_iff.mp q;cases e
 | t::l,m,us,r,q=>by
  obtain⟨v,ws,rfl,p,z⟩:=ReVs.cons_iff.mp r
  cases m with
  | nil=>cases ReVs.nil_iff.mp q
  | cons u m=>
   obtain⟨v',ws',e,p',z'⟩:=ReVs.cons_iff.mp q
   injection e with e1 e2
   subst e1 e2
   rw [beqTs,ReV.refl p p',ReVs.refl z z'];rfl
end
theorem beqSc_ts:∀ (l:List Int) (m:List T),beqSc l m=beqTs (l.map T.int) m
 | [],[] =>by simp [beqSc,beqTs]
 | [],_::_=>by simp [beqSc,beqTs]
 | _::_,[] =>by simp [beqSc,beqTs]
 | i::l,t::m=>by
  rw [beqSc,List.map_cons,beqTs,beqSc_ts l m]
  congr 1
  cases t <;> simp [beqI,aW]
theorem scr_beq:∀ (l m:List Int),(l == m)=beqTs (l.map T.int) (m.map T.int)
 | [],[] =>by simp [beqTs]
 | [],_::_=>by simp [beqTs]
 | _::_,[] =>by simp [beqTs]
 | i::l,t::m=>by
  rw [List.map_cons,List.map_cons,beqTs,<-scr_beq l m]
  simp [aW]
theorem fx:∀ (l:List Int),deps (l.map T.int)=0
 | [] =>rfl
 | i::l=>by rw [List.map_cons,deps,fx l];simp [T.dep]
def notSeqs:T->T->Prop
 | .tup _,.tup _=>False
 | .lst _,.lst _=>False
 | .lst _,.scr _=>False
 | .scr _,.lst _=>False
 | .scr _,.scr _=>False
 | _,_=>True
theorem eq_T0 (A:Around)(s:Shared)(x y:T)(u v:Value)(hn:notSeqs x y)(hu:A.units<cLine)(rx:ReV s x u)(ry:ReV s y v):EqAt A s u v (aW x y)/\RcAt A s u v (aW x y)/\RcNeAt A s u v (!aW x y):=by
 match x,y,hn,rx,ry with
 | .dct _ _,_,_,rx,_=>exact(by unfold ReV at rx;exact rx:False).elim
 | _,.dct _ _,_,_,ry=>exact(by unfold ReV at ry;exact ry:False).elim
 | .non,.non,hn,rx,ry=>
  obtain rfl:u=Value.none:=by unfold ReV at rx;exact rx
  obtain rfl:v=Value.none:=by unfold ReV at ry;exact ry
  exact⟨EqAt.same _,RcAt.none_none ,RcNeAt.none_none ⟩
 | .non,.bl b2,hn,rx,ry=>
  obtain rfl:u=Value.none:=by unfold ReV at rx;exact rx
  obtain rfl:v=Value.bool b2:=by unfold ReV at ry;exact ry
  exact⟨EqAt.none_bool b2,RcAt.none_bool b2,RcNeAt.none_bool b2⟩
 | .non,.int i2,hn,rx,ry=>
  obtain rfl:u=Value.none:=by unfold ReV at rx;exact rx
  obtain⟨k2,rfl⟩:∃ k,v=Value.int i2 k:=by unfold ReV at ry;exact ry
  exact⟨EqAt.none_int i2 k2,RcAt.none_int i2 k2,RcNeAt.none_int i2 k2⟩
 | .non,.str x2,hn,rx,ry=>
  obtain rfl:u=Value.none:=by unfold ReV at rx;exact rx
  obtain⟨k2,rfl⟩:∃ k,v=Value.str x2 k:=by unfold ReV at ry;exact ry
  exact⟨EqAt.none_str x2 k2,RcAt.none_str x2 k2,RcNeAt.none_str x2 k2⟩
 | .non,.tup l2,hn,rx,ry=>
  obtain rfl:u=Value.none:=by unfold ReV at rx;exact rx
  unfold ReV at ry;obtain⟨a2,us2,rfl,h2,q2⟩:=ry
  exact⟨EqAt.none_tuple h2 hu,RcAt.none_tuple h2 hu,RcNeAt.none_tuple h2 hu⟩
 | .non,.lst l2,hn,rx,ry=>
  obtain rfl:u=Value.none:=by unfold ReV at rx;exact rx
  unfold ReV at ry;obtain⟨a2,us2,rfl,h2,q2⟩:=ry
  exact⟨EqAt.none_list h2 hu,RcAt.none_list h2 hu,RcNeAt.none_list h2 hu⟩
 | .non,.scr l2,hn,rx,ry=>
  obtain rfl:u=Value.none:=by unfold ReV at rx;exact rx
  unfold ReV at ry;obtain⟨a2,us2,rfl,h2,q2⟩:=ry
  exact⟨EqAt.none_list h2 hu,RcAt.none_list h2 hu,RcNeAt.none_list h2 hu⟩
 | .bl b1,.non,hn,rx,ry=>
  obtain rfl:u=Value.bool b1:=by unfold ReV at rx;exact rx
  obtain rfl:v=Value.none:=by unfold ReV at ry;exact ry
  exact⟨EqAt.bool_none b1,RcAt.bool_none b1,RcNeAt.bool_none b1⟩
 | .bl b1,.bl b2,hn,rx,ry=>
  obtain rfl:u=Value.bool b1:=by unfold ReV at rx;exact rx
  obtain rfl:v=Value.bool b2:=by unfold ReV at ry;exact ry
  exact⟨EqAt.bool_bool b1 b2,RcAt.bool_bool b1 b2,RcNeAt.bool_bool b1 b2⟩
 | .bl b1,.int i2,hn,rx,ry=>
  obtain rfl:u=Value.bool b1:=by unfold ReV at rx;exact rx
  obtain⟨k2,rfl⟩:∃ k,v=Value.int i2 k:=by unfold ReV at ry;exact ry
  exact⟨EqAt.bool_int b1 i2 k2,RcAt.bool_int b1 i2 k2,RcNeAt.bool_int b1 i2 k2⟩
 | .bl b1,.str x2,hn,rx,ry=>
  obtain rfl:u=Value.bool b1:=by unfold ReV at rx;exact rx
  obtain⟨k2,rfl⟩:∃ k,v=Value.str x2 k:=by unfold ReV at ry;exact ry
  exact⟨EqAt.bool_str b1 x2 k2,RcAt.bool_str b1 x2 k2,RcNeAt.bool_str b1 x2 k2⟩
 | .bl b1,.tup l2,hn,rx,ry=>
  obtain rfl:u=Value.bool b1:=by unfold ReV at rx;exact rx
  unfold ReV at ry;obtain⟨a2,us2,rfl,h2,q2⟩:=ry
  exact⟨EqAt.bool_tuple b1 h2 hu,RcAt.bool_tuple b1 h2 hu,RcNeAt.bool_tuple b1 h2 hu⟩
 | .bl b1,.lst l2,hn,rx,ry=>
  obtain rfl:u=Value.bool b1:=by unfold ReV at rx;exact rx
  unfold ReV at ry;obtain⟨a2,us2,rfl,h2,q2⟩:=ry
  exact⟨EqAt.bool_list b1 h2 hu,RcAt.bool_list b1 h2 hu,RcNeAt.bool_list b1 h2 hu⟩
 | .bl b1,.scr l2,hn,rx,ry=>
  obtain rfl:u=Value.bool b1:=by unfold ReV at rx;exact rx
  unfold ReV at ry;obtain⟨a2,us2,rfl,h2,q2⟩:=ry
  exact⟨EqAt.bool_list b1 h2 hu,RcAt.bool_list b1 h2 hu,RcNeAt.bool_list b1 h2 hu⟩
 | .int i1,.non,hn,rx,ry=>
  obtain⟨k1,rfl⟩:∃ k,u=Value.int i1 k:=by unfold ReV at rx;exact rx
  obtain rfl:v=Value.none:=by unfold ReV at ry;exact ry
  exact⟨EqAt.int_none i1 k1,RcAt.int_none i1 k1,RcNeAt.int_none i1 k1⟩
 | .int i1,.bl b2,hn,rx,ry=>
  obtain⟨k1,rfl⟩:∃ k,u=Value.int i1 k:=by unfold ReV at rx;exact rx
  obtain rfl:v=Value.bool b2:=by unfold ReV at ry;exact ry
  exact⟨EqAt.int_bool i1 k1 b2,RcAt.int_bool i1 k1 b2,RcNeAt.int_bool i1 k1 b2⟩
 | .int i1,.int i2,hn,rx,ry=>
  obtain⟨k1,rfl⟩:∃ k,u=Value.int i1 k:=by unfold ReV at rx;exact rx
  obtain⟨k2,rfl⟩:∃ k,v=Value.int i2 k:=by unfold ReV at ry;exact ry
  exact⟨EqAt.int_int i1 k1 i2 k2,RcAt.int_int i1 k1 i2 k2,RcNeAt.int_int i1 k1 i2 k2⟩
 | .int i1,.str x2,hn,rx,ry=>
  obtain⟨k1,rfl⟩:∃ k,u=Value.int i1 k:=by unfold ReV at rx;exact rx
  obtain⟨k2,rfl⟩:∃ k,v=Value.str x2 k:=by unfold ReV at ry;exact ry
  exact⟨EqAt.int_str i1 k1 x2 k2,RcAt.int_str i1 k1 x2 k2,RcNeAt.int_str i1 k1 x2 k2⟩
 | .int i1,.tup l2,hn,rx,ry=>
  obtain⟨k1,rfl⟩:∃ k,u=Value.int i1 k:=by unfold ReV at rx;exact rx
  unfold ReV at ry;obtain⟨a2,us2,rfl,h2,q2⟩:=ry
  exact⟨EqAt.int_tuple i1 k1 h2 hu,RcAt.int_tuple i1 k1 h2 hu,RcNeAt.int_tuple i1 k1 h2 hu⟩
 | .int i1,.lst l2,hn,rx,ry=>
  obtain⟨k1,rfl⟩:∃ k,u=Value.int i1 k:=by unfold ReV at rx;exact rx
  unfold ReV at ry;obtain⟨a2,us2,rfl,h2,q2⟩:=ry
  exact⟨EqAt.int_list i1 k1 h2 hu,RcAt.int_list i1 k1 h2 hu,RcNeAt.int_list i1 k1 h2 hu⟩
 | .int i1,.scr l2,hn,rx,ry=>
  obtain⟨k1,rfl⟩:∃ k,u=Value.int i1 k:=by unfold ReV at rx;exact rx
  unfold ReV at ry;obtain⟨a2,us2,rfl,h2,q2⟩:=ry
  exact⟨EqAt.int_list i1 k1 h2 hu,RcAt.int_list i1 k1 h2 hu,RcNeAt.int_list i1 k1 h2 hu⟩
 | .str x1,.non,hn,rx,ry=>
  obtain⟨k1,rfl⟩:∃ k,u=Value.str x1 k:=by unfold ReV at rx;exact rx
  obtain rfl:v=Value.none:=by unfold ReV at ry;exact ry
  exact⟨EqAt.str_none x1 k1,RcAt.str_none x1 k1,RcNeAt.str_none x1 k1⟩
 | .str x1,.bl b2,hn,rx,ry=>
  obtain⟨k1,rfl⟩:∃ k,u=Value.str x1 k:=by unfold ReV at rx;exact rx
  obtain rfl:v=Value.bool b2:=by unfold ReV at ry;exact ry
  exact⟨EqAt.str_bool x1 k1 b2,RcAt.str_bool x1 k1 b2,RcNeAt.str_bool x1 k1 b2⟩
 | .str x1,.int i2,hn,rx,ry=>
  obtain⟨k1,rfl⟩:∃ k,u=Value.str x1 k:=by unfold ReV at rx;exact rx
  obtain⟨k2,rfl⟩:∃ k,v=Value.int i2 k:=by unfold ReV at ry;exact ry
  exact⟨EqAt.str_int x1 k1 i2 k2,RcAt.str_int x1 k1 i2 k2,RcNeAt.str_int x1 k1 i2 k2⟩
 | .str x1,.str x2,hn,rx,ry=>
  obtain⟨k1,rfl⟩:∃ k,u=Value.str x1 k:=by unfold ReV at rx;exact rx
  obtain⟨k2,rfl⟩:∃ k,v=Value.str x2 k:=by unfold ReV at ry;exact ry
  exact⟨EqAt.str_str x1 k1 x2 k2,RcAt.str_str x1 k1 x2 k2,RcNeAt.str_str x1 k1 x2 k2⟩
 | .str x1,.tup l2,hn,rx,ry=>
  obtain⟨k1,rfl⟩:∃ k,u=Value.str x1 k:=by unfold ReV at rx;exact rx
  unfold ReV at ry;obtain⟨a2,us2,rfl,h2,q2⟩:=ry
  exact⟨EqAt.str_tuple x1 k1 h2 hu,RcAt.str_tuple x1 k1 h2 hu,RcNeAt.str_tuple x1 k1 h2 hu⟩
 | .str x1,.lst l2,hn,rx,ry=>
  obtain⟨k1,rfl⟩:∃ k,u=Value.str x1 k:=by unfold ReV at rx;exact rx
  unfold ReV at ry;obtain⟨a2,us2,rfl,h2,q2⟩:=ry
  exact⟨EqAt.str_list x1 k1 h2 hu,RcAt.str_list x1 k1 h2 hu,RcNeAt.str_list x1 k1 h2 hu⟩
 | .str x1,.scr l2,hn,rx,ry=>
  obtain⟨k1,rfl⟩:∃ k,u=Value.str x1 k:=by unfold ReV at rx;exact rx
  unfold ReV at ry;obtain⟨a2,us2,rfl,h2,q2⟩:=ry
  exact⟨EqAt.str_list x1 k1 h2 hu,RcAt.str_list x1 k1 h2 hu,RcNeAt.str_list x1 k1 h2 hu⟩
 | .tup l1,.non,hn,rx,ry=>
  unfold ReV at rx;obtain⟨a1,us1,rfl,h1,q1⟩:=rx
  obtain rfl:v=Value.none:=by unfold ReV at ry;exact ry
  exact⟨EqAt.tuple_none h1 hu,RcAt.tuple_none h1 hu,RcNeAt.tuple_none h1 hu⟩
 | .tup l1,.bl b2,hn,rx,ry=>
  unfold ReV at rx;obtain⟨a1,us1,rfl,h1,q1⟩:=rx
  obtain rfl:v=Value.bool b2:=by unfold ReV at ry;exact ry
  exact⟨EqAt.tuple_bool b2 h1 hu,RcAt.tuple_bool b2 h1 hu,RcNeAt.tuple_bool b2 h1 hu⟩
 | .tup l1,.int i2,hn,rx,ry=>
  unfold ReV at rx;obtain⟨a1,us1,rfl,h1,q1⟩:=rx
  obtain⟨k2,rfl⟩:∃ k,v=Value.int i2 k:=by unfold ReV at ry;exact ry
  exact⟨EqAt.tuple_int i2 k2 h1 hu,RcAt.tuple_int i2 k2 h1 hu,RcNeAt.tuple_int i2 k2 h1 hu⟩
 | .tup l1,.str x2,hn,rx,ry=>
  unfold ReV at rx;obtain⟨a1,us1,rfl,h1,q1⟩:=rx
  obtain⟨k2,rfl⟩:∃ k,v=Value.str x2 k:=by unfold ReV at ry;exact ry
  exact⟨EqAt.tuple_str x2 k2 h1 hu,RcAt.tuple_str x2 k2 h1 hu,RcNeAt.tuple_str x2 k2 h1 hu⟩
 | .tup _,.tup _,hn,_,_=>exact hn.elim
 | .tup l1,.lst l2,hn,rx,ry=>
  unfold ReV at rx;obtain⟨a1,us1,rfl,h1,q1⟩:=rx
  unfold ReV at ry;obtain⟨a2,us2,rfl,h2,q2⟩:=ry
  exact⟨EqAt.tuple_list h1 h2 hu,RcAt.tuple_list h1 h2 hu,RcNeAt.tuple_list h1 h2 hu⟩
 | .tup l1,.scr l2,hn,rx,ry=>
  unfold ReV at rx;obtain⟨a1,us1,rfl,h1,q1⟩:=rx
  unfold ReV at ry;obtain⟨a2,us2,rfl,h2,q2⟩:=ry
  exact⟨EqAt.tuple_list h1 h2 hu,RcAt.tuple_list h1 h2 hu,RcNeAt.tuple_list h1 h2 hu⟩
 | .lst l1,.non,hn,rx,ry=>
  unfold ReV at rx;obtain⟨a1,us1,rfl,h1,q1⟩:=rx
  obtain rfl:v=Value.none:=by unfold ReV at ry;exact ry
  exact⟨EqAt.list_none h1 hu,RcAt.list_none h1 hu,RcNeAt.list_none h1 hu⟩
 | .lst l1,.bl b2,hn,rx,ry=>
  unfold ReV at rx;obtain⟨a1,us1,rfl,h1,q1⟩:=rx
  obtain rfl:v=Value.bool b2:=by unfold ReV at ry;exact ry
  exact⟨EqAt.list_bool b2 h1 hu,RcAt.list_bool b2 h1 hu,RcNeAt.list_bool b2 h1 hu⟩
 | .lst l1,.int i2,hn,rx,ry=>
  unfold ReV at rx;obtain⟨a1,us1,rfl,h1,q1⟩:=rx
  obtain⟨k2,rfl⟩:∃ k,v=Value.int i2 k:=by unfold ReV at ry;exact ry
  exact⟨EqAt.list_int i2 k2 h1 hu,RcAt.list_int i2 k2 h1 hu,RcNeAt.list_int i2 k2 h1 hu⟩
 | .lst l1,.str x2,hn,rx,ry=>
  unfold ReV at rx;obtain⟨a1,us1,rfl,h1,q1⟩:=rx
  obtain⟨k2,rfl⟩:∃ k,v=Value.str x2 k:=by unfold ReV at ry;exact ry
  exact⟨EqAt.list_str x2 k2 h1 hu,RcAt.list_str x2 k2 h1 hu,RcNeAt.list_str x2 k2 h1 hu⟩
 | .lst l1,.tup l2,hn,rx,ry=>
  unfold ReV at rx;obtain⟨a1,us1,rfl,h1,q1⟩:=rx
  unfold ReV at ry;obtain⟨a2,us2,rfl,h2,q2⟩:=ry
  exact⟨EqAt.list_tuple h1 h2 hu,RcAt.list_tuple h1 h2 hu,RcNeAt.list_tuple h1 h2 hu⟩
 | .lst _,.lst _,hn,_,_=>exact hn.elim
 | .lst _,.scr _,hn,_,_=>exact hn.elim
 | .scr l1,.non,hn,rx,ry=>
  unfold ReV at rx;obtain⟨a1,us1,rfl,h1,q1⟩:=rx
  obtain rfl:v=Value.none:=by unfold ReV at ry;exact ry
  exact⟨EqAt.list_none h1 hu,RcAt.list_none h1 hu,RcNeAt.list_none h1 hu⟩
 | .scr l1,.bl b2,hn,rx,ry=>
  unfold ReV at rx;obtain⟨a1,us1,rfl,h1,q1⟩:=rx
  obtain rfl:v=Value.bool b2:=by unfold ReV at ry;exact ry
  exact⟨EqAt.list_bool b2 h1 hu,RcAt.list_bool b2 h1 hu,RcNeAt.list_bool b2 h1 hu⟩
 | .scr l1,.int i2,hn,rx,ry=>
  unfold ReV at rx;obtain⟨a1,us1,rfl,h1,q1⟩:=rx
  obtain⟨k2,rfl⟩:∃ k,v=Value.int i2 k:=by unfold ReV at ry;exact ry
  exact⟨EqAt.list_int i2 k2 h1 hu,RcAt.list_int i2 k2 h1 hu,RcNeAt.list_int i2 k2 h1 hu⟩
 | .scr l1,.str x2,hn,rx,ry=>
  unfold ReV at rx;obtain⟨a1,us1,rfl,h1,q1⟩:=rx
  obtain⟨k2,rfl⟩:∃ k,v=Value.str x2 k:=by unfold ReV at ry;exact ry
  exact⟨EqAt.list_str x2 k2 h1 hu,RcAt.list_str x2 k2 h1 hu,RcNeAt.list_str x2 k2 h1 hu⟩
 | .scr l1,.tup l2,hn,rx,ry=>
  unfold ReV at rx;obtain⟨a1,us1,rfl,h1,q1⟩:=rx
  unfold ReV at ry;obtain⟨a2,us2,rfl,h2,q2⟩:=ry
  exact⟨EqAt.list_tuple h1 h2 hu,RcAt.list_tuple h1 h2 hu,RcNeAt.list_tuple h1 h2 hu⟩
 | .scr _,.lst _,hn,_,_=>exact hn.elim
 | .scr _,.scr _,hn,_,_=>exact hn.elim
theorem eq_T:∀ (n:Nat) (A:Around) (s:Shared) (x y:T) (u v:Value),(x.dep<=n\/y.dep<=n)->A.units+n<cLine->ReV s x u->ReV s y v->EqAt A s u v (aW x y)/\RcAt A s u v (aW x y)/\RcNeAt A s u v (!aW x y):=by
 intro n
 induction n with
 | zero=>
  intro A s x y u v hd hu rx ry
  exact eq_T0 A s x y u v (by cases x <;> cases y <;> simp_all [notSeqs,T.dep]) (by omega) rx ry
 | succ n ih=>
  intro A s x y u v hd hu rx ry
  have hin:A.in1.units+n<cLine:=by show A.units+1+n<cLine;omega
  have items:∀ (l m:List T) (us vs:List Value),(deps l<=n\/deps m<=n)->ReVs s l us->ReVs s m vs->∃ e:Nat->Bool,(∀j (h1:j<us.toArray.size) (h2:j<vs.toArray.size),EqAt A.in1 s us.toArray[j] vs.toArray[j] (e j)) ∧
    (∀(j:Nat) t u,l[j]? =some t->m[j]? =some u->e j=aW t u):=fun l m us vs hd r1 r2=>by
   refine⟨fun j=>aW (l.getD j .non) (m.getD j .non),fun j h1 h2=> ?_,fun j t u e1 e2=>by simp [List.getD,e1,e2]⟩
   have l1:=r1.length
   have l2:=r2.length
   have h1':j<l.length:=by rw [l1];simpa using h1
   have h2':j<m.length:=by rw [l2];simpa using h2
   have e1:l[j]? =some l[j]:=by simp
   have e2:m[j]? =some m[j]:=by simp
   obtain⟨u1,z1,w1⟩:=r1.get e1
   obtain⟨u2,z2,w2⟩:=r2.get e2
   have q1:us.toArray[j] =u1:=by
    have:us[j]? =some us.toArray[j]:=by simp
    rw [z1]at this;exact(Option.some.inj this).symm
   have q2:vs.toArray[j] =u2:=by
    have:vs[j]? =some vs.toArray[j]:=by simp
    rw [z2]at this;exact(Option.some.inj this).symm
   rw [q1,q2]
   have g1:l.getD j .non=l[j]:=by simp [List.getD,e1]
   have g2:m.getD j .non=m[j]:=by simp [List.getD,e2]
   show EqAt A.in1 s u1 u2 (aW (l.getD j .non) (m.getD j .non))
   rw [g1,g2]
   refine(ih A.in1 s l[j] m[j] u1 u2 ?_ hin w1 w2).1
   rcases hd with hd | hd
   ·exact .inl (Nat.le_trans (deps_get e1) hd)
   ·exact .inr (Nat.le_trans (deps_get e2) hd)
  have lists:∀ (l m:List T) (a b:Addr) (us vs:List Value),(deps l<=n\/deps m<=n)->ReVs s l us->ReVs s m vs->s.heap.IsList a us.toArray->s.heap.IsList b vs.toArray →
    EqAt A s (.ref a) (.ref b) (beqTs l m)/\RcAt A s (.ref a) (.ref b) (beqTs l m)/\RcNeAt A s (.ref a) (.ref b) (!beqTs l m):=fun l m a b us vs hd r1 r2 h1 h2=>by
   have l1:=r1.length
   have l2:=r2.length
   have key:RcAt A s (.ref a) (.ref b) (beqTs l m)/\RcNeAt A s (.ref a) (.ref b) (!beqTs l m):=by
    by_cases hl:l.length=m.length
    ·obtain⟨e,he,hb⟩:=items l m us vs hd r1 r2
     have q:=beqTs_all l m e hb
     have q2:beqTs l m=(List.range us.toArray.size).all e:=by
      rw [q,hl,Nat.min_self]
      simp [l2.symm,hl.symm,l1]
     rw [q2]
     have hsz:us.toArray.size=vs.toArray.size:=by simp;omega
     exact⟨RcAt.lists h1 h2 hsz (by omega) he,RcNeAt.lists h1 h2 hsz (by omega) he⟩
    ·rw [beqTs_len hl]
     have hsz:(us.toArray.size != vs.toArray.size)=true:=by simp;omega
     exact⟨RcAt.lists_lengths h1 h2 hsz (by omega),RcNeAt.lists_lengths h1 h2 hsz (by omega)⟩
   refine⟨?_,key⟩
   by_cases hab:a=b
   ·subst hab
    have:=cz h1 h2
    subst this
    rw [ReVs.refl r1 r2]
    exact EqAt.same _
   ·exact EqAt.of_refs hab key.1
  cases x with
  | tup l=>
   cases y with
   | tup m=>
    unfold ReV at rx ry
    obtain⟨a,us,rfl,h1,r1⟩:=rx
    obtain⟨b,vs,rfl,h2,r2⟩:=ry
    have hd':deps l<=n\/deps m<=n:=by
     simp only [T.dep]at hd;omega
    have l1:=r1.length
    have l2:=r2.length
    obtain⟨e,he,hb⟩:=items l m us vs hd' r1 r2
    have q:=beqTs_all l m e hb
    have q2:beqTs l m=((List.range (min us.toArray.size vs.toArray.size)).all e&&us.toArray.size == vs.toArray.size):=by
     rw [q];simp [l1,l2]
    have key:RcAt A s (.ref a) (.ref b) (beqTs l m)/\RcNeAt A s (.ref a) (.ref b) (!beqTs l m):=by
     rw [q2]
     exact⟨RcAt.tuples h1 h2 (by omega) he,RcNeAt.tuples h1 h2 (by omega) he⟩
    unfold aW
    refine⟨?_,key⟩
    by_cases hab:a=b
    ·subst hab
     have:=isTuple_inj h1 h2
     subst this
     rw [ReVs.refl r1 r2]
     exact EqAt.same _
    ·exact EqAt.of_refs hab key.1
   | _=>exact eq_T0 A s _ _ u v (by simp [notSeqs]) (by omega) rx ry
  | lst l=>
   cases y with
   | lst m=>
    unfold ReV at rx ry
    obtain⟨a,us,rfl,h1,r1⟩:=rx
    obtain⟨b,vs,rfl,h2,r2⟩:=ry
    unfold aW
    exact lists l m a b us vs (by simp only [T.dep]at hd;omega) r1 r2 h1 h2
   | scr m=>
    unfold ReV at rx ry
    obtain⟨a,us,rfl,h1,r1⟩:=rx
    obtain⟨b,vs,rfl,h2,r2⟩:=ry
    unfold aW
    exact lists l (m.map T.int) a b us vs (by rw [fx];omega) r1 (dz r2) h1 h2
   | _=>exact eq_T0 A s _ _ u v (by simp [notSeqs]) (by omega) rx ry
  | scr l=>
   cases y with
   | lst m=>
    unfold ReV at rx ry
    obtain⟨a,us,rfl,h1,r1⟩:=rx
    obtain⟨b,vs,rfl,h2,r2⟩:=ry
    unfold aW
    rw [beqSc_ts]
    exact lists (l.map T.int) m a b us vs (by rw [fx];omega) (dz r1) r2 h1 h2
   | scr m=>
    unfold ReV at rx ry
    obtain⟨a,us,rfl,h1,r1⟩:=rx
    obtain⟨b,vs,rfl,h2,r2⟩:=ry
    unfold aW
    rw [scr_beq]
    exact lists (l.map T.int) (m.map T.int) a b us vs (by rw [fx];omega) (dz r1) (dz r2) h1 h2
   | _=>exact eq_T0 A s _ _ u v (by simp [notSeqs]) (by omega) rx ry
  | _=>exact eq_T0 A s _ _ u v (by simp [notSeqs]) (by omega) rx ry
mutual
def T.nf:T->T
 | .tup l=> .tup (nfs l)
 | .lst l=> .lst (nfs l)
 | .scr l=> .lst (l.map .int)
 | .non=> .non
 | .bl b=> .bl b
 | .int b=> .int b
 | .str b=> .str b
 | .dct a b=> .dct a b
def nfs:List T->List T
 | [] => []
 | t::l=>t.nf::nfs l
end
theorem nfs_ints:∀ (l:List Int),nfs (l.map T.int)=l.map T.int
 | [] =>rfl
 | i::l=>by rw [List.map_cons,nfs,nfs_ints l];simp [T.nf]
mutual
theorem beqT_nf:∀ (t x:T),aW t.nf x=aW t x
 | .non,x=>by simp [T.nf]
 | .bl _,x=>by simp [T.nf]
 | .int _,x=>by simp [T.nf]
 | .str _,x=>by simp [T.nf]
 | .tup l,x=>by cases x <;> simp [T.nf,aW,beqTs_nf l]
 | .lst l,x=>by cases x <;> simp [T.nf,aW,beqTs_nf l]
 | .scr l,x=>by cases x <;> simp [T.nf,aW,beqSc_ts,scr_beq]
 | .dct _ _,x=>by simp [T.nf]
theorem beqTs_nf:∀ (l m:List T),beqTs (nfs l) m=beqTs l m
 | [],m=>by simp [nfs]
 | t::l,m=>by cases m <;> simp [nfs,beqTs,beqT_nf t,beqTs_nf l]
end
theorem int_nf {s:Shared}{t:T}{i:Int}{k:Tok}(r:ReV s t (.int i k)):t.nf= .int i:=by
 cases t with
 | non=>unfold ReV at r;cases r
 | bl b=>unfold ReV at r;cases r
 | int j=>unfold ReV at r;obtain⟨t,e⟩:=r;injection e with e1 _;subst e1;rfl
 | str x=>unfold ReV at r;obtain⟨t,e⟩:=r;cases e
 | tup l=>unfold ReV at r;obtain⟨a,its,e,_⟩:=r;cases e
 | lst l=>unfold ReV at r;obtain⟨a,its,e,_⟩:=r;cases e
 | scr l=>unfold ReV at r;obtain⟨a,its,e,_⟩:=r;cases e
 | dct _ _=>unfold ReV at r;exact r.elim
theorem ints_nf {s:Shared}:∀ {l:List T} {us:List Value} {ns:List Int},ReVs s l us->IntsAre us ns->nfs l=ns.map T.int
 | [],us,ns,r,h=>by cases ReVs.nil_iff.mp r;cases h;rfl
 | t::l,us,ns,r,h=>by
  obtain⟨u,ws,rfl,p,q⟩:=ReVs.cons_iff.mp r
  cases h with
  | cons a b hh=>rw [nfs,int_nf p,ints_nf q hh];rfl
mutual
theorem ReV.nf {s:Shared}:∀ {t u:T} {v:Value},ReV s t v->ReV s u v->t.nf=u.nf
 | .non,u,v,r,q=>by
  unfold ReV at r;subst r
  cases u <;> (unfold ReV at q) <;> first | rfl | (cases q;done) | (obtain⟨_,e⟩:=q;cases e;done) | (obtain⟨_,_,e,_⟩:=q;cases e;done)
 | .bl b,u,v,r,q=>by
  unfold ReV at r;subst r
  cases u <;> (unfold ReV at q) <;> first | (cases q;done) | (cases q;rfl) | (obtain⟨_,e⟩:=q;cases e;done) | (obtain⟨_,_,e,_⟩:=q;cases e;done)
 | .int b,u,v,r,q=>by
  unfold ReV at r;obtain⟨k,rfl⟩:=r
  cases u <;> (unfold ReV at q) <;> first | (cases q;done) | (obtain⟨_,e⟩:=q;cases e;done) | (obtain⟨_,e⟩:=q;cases e;rfl) | (obtain⟨_,_,e,_⟩:=q;cases e;done)
 | .str b,u,v,r,q=>by
  unfold ReV at r;obtain⟨k,rfl⟩:=r
  cases u <;> (unfold ReV at q) <;> first | (cases q;done) | (obtain⟨_,e⟩:=q;cases e;done) | (obtain⟨_,e⟩:=q;cases e;rfl) | (obtain⟨_,_,e,_⟩:=q;cases e;done)
 | .tup l,u,v,r,q=>by
  unfold ReV at r;obtain⟨a,its,rfl,h1,h2⟩:=r
  cases u with
  | non=>unfold ReV at q;cases q
  | dct _ _=>unfold ReV at q;exact q.elim
  | bl _=>unfold ReV at q;cases q
  | int _=>unfold ReV at q;obtain⟨_,e⟩:=q;cases e
  | str _=>unfold ReV at q;obtain⟨_,e⟩:=q;cases e
  | tup m=>
   unfold ReV at q;obtain⟨a',its',e,h1',h2'⟩:=q
   injection e with e;subst e
   have:=isTuple_inj h1 h1';subst this
   unfold T.nf
   rw [ReVs.nf h2 h2']
  | lst m=>unfold ReV at q;obtain⟨a',its',e,h1',h2'⟩:=q;injection e with e;subst e;exact absurd rfl (ne_of_list_tuple h1' h1)
  | scr m=>unfold ReV at q;obtain⟨a',its',e,h1',h2'⟩:=q;injection e with e;subst e;exact absurd rfl (ne_of_list_tuple h1' h1)
 | .lst l,u,v,r,q=>by
  unfold ReV at r;obtain⟨a,its,rfl,h1,h2⟩:=r
  cases u with
  | non=>unfold ReV at q;cases q
  | dct _ _=>unfold ReV at q;exact q.elim
  | bl _=>unfold ReV at q;cases q
  | int _=>unfold ReV at q;obtain⟨_,e⟩:=q;cases e
  | str _=>unfold ReV at q;obtain⟨_,e⟩:=q;cases e
  | lst m=>
   unfold ReV at q;obtain⟨a',its',e,h1',h2'⟩:=q
   injection e with e;subst e
   have:=cz h1 h1';subst this
   unfold T.nf
   rw [ReVs.nf h2 h2']
  | tup m=>unfold ReV at q;obtain⟨a',its',e,h1',h2'⟩:=q;injection e with e;subst e;exact absurd rfl (ne_of_list_tuple h1 h1')
  | scr m=>
   unfold ReV at q;obtain⟨a',its',e,h1',h2'⟩:=q
   injection e with e;subst e
   have:=cz h1 h1';subst this
   unfold T.nf
   rw [ReVs.nf h2 (dz h2'),nfs_ints]
 | .scr l,u,v,r,q=>by
  unfold ReV at r;obtain⟨a,its,rfl,h1,h2⟩:=r
  cases u with
  | non=>unfold ReV at q;cases q
  | dct _ _=>unfold ReV at q;exact q.elim
  | bl _=>unfold ReV at q;cases q
  | int _=>unfold ReV at q;obtain⟨_,e⟩:=q;cases e
  | str _=>unfold ReV at q;obtain⟨_,e⟩:=q;cases e
  | lst m=>
   unfold ReV at q;obtain⟨a',its',e,h1',h2'⟩:=q
   injection e with e;subst e
   have:=cz h1 h1';subst this
   have z:=ints_nf h2' h2
   unfold T.nf
   rw [z]
  | tup m=>unfold ReV at q;obtain⟨a',its',e,h1',h2'⟩:=q;injection e with e;subst e;exact absurd rfl (ne_of_list_tuple h1 h1')
  | scr m=>
   unfold ReV at q;obtain⟨a',its',e,h1',h2'⟩:=q
   injection e with e;subst e
   have:=cz h1 h1';subst this
   rw [intsAre_inj h2 h2']
 | .dct _ _,u,v,r,q=>by unfold ReV at r;exact r.elim
theorem ReVs.nf {s:Shared}:∀ {l m:List T} {us:List Value},ReVs s l us->ReVs s m us->nfs l=nfs m
 | [],m,us,r,q=>by
  cases ReVs.nil_iff.mp r
  cases m with
  | nil=>rfl
  | cons _ _=>obtain⟨_,_,e,_⟩:=ReVs.cons_iff.mp q;cases e
 | t::l,m,us,r,q=>by
  obtain⟨v,ws,rfl,p,z⟩:=ReVs.cons_iff.mp r
  cases m with
  | nil=>cases ReVs.nil_iff.mp q
  | cons u m=>
   obtain⟨v',ws',e,p',z'⟩:=ReVs.cons_iff.mp q
   injection e with e1 e2
   subst e1 e2
   rw [nfs,nfs,ReV.nf p p',ReVs.nf z z']
end
section
variable {X:Cx}{a b c:Expr}{fa fb fc:En->Rs T}{pos:Pos}
def gi (x y:T):Bool:=(decide (x.dep<=60)||decide (y.dep<=60))&&(x.nd&&y.nd)
def eqT (x y:T):Rs T:=if gi x y=true then .ok (.bl (aW x y))else .bad
def neT (x y:T):Rs T:=if gi x y=true then .ok (.bl (!aW x y))else .bad
theorem fP {x y:T}(h:x.dep<=60)(hx:x.nd=true)(hy:y.nd=true):gi x y=true:=by unfold gi;rw [decide_eq_true h,hx,hy];rfl
theorem flat60_r {x y:T}(h:y.dep<=60)(hx:x.nd=true)(hy:y.nd=true):gi x y=true:=by unfold gi;rw [decide_eq_true h,hx,hy,Bool.or_true];rfl
theorem flat60_nd {x y:T}(h:gi x y=true):x.nd=true/\y.nd=true:=by
 unfold gi at h
 exact Bool.and_eq_true_iff.mp (Bool.and_eq_true_iff.mp h).2
theorem flat60_or {x y:T}(h:gi x y=true):x.dep<=60\/y.dep<=60:=by
 unfold gi at h
 replace h:=(Bool.and_eq_true_iff.mp h).1
 rcases Bool.or_eq_true_iff.mp h with h | h
 ·exact .inl (of_decide_eq_true h)
 ·exact .inr (of_decide_eq_true h)
theorem ot_eq (hu:X.A.units+60<cLine):OpT X (compareOp .Eq) eqT:=by
 intro pins s σ H O x y vx vy ux uy Q I hf rx ry r1 r2 hp
 unfold eqT at hp
 split at hp
 ·rename_i h
  have z:=eq_T 60 X.A s x y ux uy (flat60_or h) hu (Rep.val I (flat60_nd h).1 rx r1) (Rep.val I (flat60_nd h).2 ry r2)
  exact z.2.1 _ _ _ _ ⟨.bl _,H,I,rfl,hp H (Same.refl H) _ (Rep.bl_ _)⟩
 ·exact hp.elim
theorem ot_ne (hu:X.A.units+60<cLine):OpT X (compareOp .NotEq) neT:=by
 intro pins s σ H O x y vx vy ux uy Q I hf rx ry r1 r2 hp
 unfold neT at hp
 split at hp
 ·rename_i h
  have z:=eq_T 60 X.A s x y ux uy (flat60_or h) hu (Rep.val I (flat60_nd h).1 rx r1) (Rep.val I (flat60_nd h).2 ry r2)
  exact z.2.2 _ _ _ _ ⟨.bl _,H,I,rfl,hp H (Same.refl H) _ (Rep.bl_ _)⟩
 ·exact hp.elim
def T.items:T->Option (List T)
 | .tup l=>some l
 | .lst l=>some l
 | .scr l=>some (l.map T.int)
 | _=>none
def anyEq (x:T)(l:List T):Bool:=l.any fun y=>aW y x
def inT (x y:T):Rs T:=match y.items with
 | some l=>if (x.dep<=60\/deps l<=60)/\x.nd=true/\y.nd=true then .ok (.bl (anyEq x l))else .bad
 | none=> .bad
theorem mem_fun {A:Around}{s:Shared}{x:T}{ux:Value}(rx:ReV s x ux)(hu:A.units+60<cLine){l:List T}{us:List Value}(hd:x.dep<=60\/deps l<=60)(r:ReVs s l us) :
  ∃e:Value->Bool,(∀y∈us,EqAt A s y ux (e y))/\us.any e=anyEq x l:=by
 classical
 have ex:∀ y∈us,∃t∈l,ReV s t y:=fun y hy=>by
  obtain⟨i,hi,rfl⟩:=List.getElem_of_mem hy
  have hl:=r.length
  have e1:l[i]? =some l[i]:=by simp
  obtain⟨u,q1,q2⟩:=r.get e1
  have:us[i]? =some us[i]:=by simp
  rw [this]at q1;cases q1
  exact⟨l[i],List.getElem_mem _,q2⟩
 let e:Value->Bool:=fun y=>decide (∃t∈l,ReV s t y/\aW t x=true)
 have dep:∀ t∈l,t.dep<=60\/x.dep<=60:=fun t ht=>by
  rcases hd with h | h
  ·exact .inr h
  ·obtain⟨i,hi,rfl⟩:=List.getElem_of_mem ht
   exact .inl (Nat.le_trans (deps_get (i:=i) (by simp)) h)
 have uniq:∀ y t t',ReV s t y->ReV s t' y->aW t x=aW t' x:=fun y t t' z z'=>by
  rw [<-beqT_nf t,<-beqT_nf t',ReV.nf z z']
 have agree:∀ y t,t∈l->ReV s t y->e y=aW t x:=fun y t h z=>by
  show decide (∃t∈l,ReV s t y/\aW t x=true)=aW t x
  cases q:aW t x with
  | true=>exact decide_eq_true ⟨t,h,z,q⟩
  | false=>
   refine decide_eq_false ?_
   rintro ⟨t',h',z',q'⟩
   rw [<-uniq y t t' z z',q]at q'
   cases q'
 refine⟨e,fun y hy=> ?_,?_⟩
 ·obtain⟨t,h,z⟩:=ex y hy
  rw [agree y t h z]
  exact(eq_T 60 A s t x y ux (dep t h) hu z rx).1
 ·have go:∀ (l':List T) (us':List Value),(∀t∈l',t∈l)->ReVs s l' us'->us'.any e=l'.any fun y=>aW y x:=by
   intro l'
   induction l' with
   | nil=>intro us' _ r';rw [ReVs.nil_iff.mp r'];rfl
   | cons t l' ih=>
    intro us' sub r'
    obtain⟨u,ws,rfl,p,q⟩:=ReVs.cons_iff.mp r'
    rw [List.any_cons,List.any_cons,ih ws (fun t ht=>sub t (List.mem_cons_of_mem _ ht)) q,agree u t (sub t List.mem_cons_self) p]
  exact go l us (fun _ h=>h) r
theorem items_val {s:Shared}{y:T}{u:Value}{l:List T}(r:ReV s y u)(h:y.items=some l):∃ a us,u= .ref a/\ReVs s l us/\(s.heap.IsTuple a us.toArray\/s.heap.IsList a us.toArray):=by
 cases y with
 | tup m=>cases h;unfold ReV at r;obtain⟨a,us,e,h1,h2⟩:=r;exact⟨a,us,e,h2,.inl h1⟩
 | lst m=>cases h;unfold ReV at r;obtain⟨a,us,e,h1,h2⟩:=r;exact⟨a,us,e,h2,.inr h1⟩
 | scr m=>cases h;unfold ReV at r;obtain⟨a,us,e,h1,h2⟩:=r;exact⟨a,us,e,dz h2,.inr h1⟩
 | _=>cases h
theorem ot_in (hu:X.A.units+61<cLine):OpT X (compareOp .In) inT:=by
 intro pins s σ H O x y vx vy ux uy Q I hf rx ry r1 r2 hp
 unfold inT at hp
 split at hp
 ·rename_i l hl
  split at hp
  ·rename_i hd3
   obtain⟨hd,hnx,hny⟩:=hd3
   obtain⟨a,us,rfl,rs,hh⟩:=items_val (Rep.val I hny ry r2) hl
   obtain⟨e,he,ha⟩:=mem_fun (A:=X.A.in1) (Rep.val I hnx rx r1) (by show X.A.units+1+60<cLine;omega) hd rs
   have q:=hp H (Same.refl H) _ (Rep.bl_ (anyEq x l))
   have he':∀ y,y∈us.toArray->EqAt X.A.in1 s y ux (e y):=fun y hy=>he y (by simpa using hy)
   have ha':us.toArray.any e=anyEq x l:=by simpa using ha
   rcases hh with hh | hh
   ·exact in_tupleAt e hh he' (by rw [ha'];exact⟨.bl _,H,I,rfl,q⟩)
   ·exact in_listAt e hh he' (by rw [ha'];exact⟨.bl _,H,I,rfl,q⟩)
  ·exact hp.elim
 ·exact hp.elim
def ch (g g':T->T->Rs T)(fa fb fc:En->Rs T)(ρ:En):Rs T:=do
 let x <-fa ρ
 let y <-fb ρ
 let z <-g x y
 match z with
 | .bl true=>do
  let w <-fc ρ
  g' y w
 | .bl false=> .ok (.bl false)
 | _=> .bad
theorem q_chain {op op':CmpOp}{g g':T->T->Rs T}(ho:OpT X (compareOp op) g)(ho':OpT X (compareOp op') g')(ha:bZ X a fa)(hb:bZ X b fb)(hc:bZ X c fc)
  (hm:lastMarks [op,op'] [b,c] =false:=by with_unfolding_all rfl):bZ X (.Compare a [op,op'] [b,c] pos) (ch g g' fa fb fc):=by
 intro pins s σ H Q I ⟨ρ,O,E,hq⟩
 have h1:=aQ E hq
 refine Compare_chain (bK (ha pins s σ H _ I h1) fun v s1 ⟨x,H1,I1,r1,t,rt,s',E',q1⟩=>chain_link ?_) hm
 have h2:=aQ (f:=fb) E' q1
 refine bK (hb pins s1 σ H1 _ I1 h2) fun u s2 hh_=> ?_
 obtain⟨y,H2,I2,r2,t2,rt2,s'',E'',q2⟩:=hh_
 refine bK (ho pins s2 σ H2 O t t2 x y v u (fun v' H'=> ∃t',Rep X.K O H' t' v'/\Same H2 H'/\Post X H' (match t' with
  | .bl true=>fc ρ >>= fun w=>g' t2 w
  | .bl false=> .ok (.bl false)
  | _=> .bad) (fun t H'=> ∀v,Rep X.K O H' t v->Q v H')) I2 (fun p=>E''.fresh) (rt.same s'') rt2 r1 r2 (Post.mono q2.bind fun t' H' s3 q v rv=>⟨t',rv,s3,q⟩)) fun d s3 ⟨z,H3,I3,r3,t3,rt3,sm3,q3⟩=> ?_
 have E3:=E''.same sm3
 split at q3
 ·cases Rep.bl_iff.mp rt3
  cases r3
  refine wpAny_truthy_bool (ite_tt (chain_last ?_))
  have h4:=aQ (f:=fc) E3 q3
  refine bK (hc pins s3 σ H3 _ I3 h4) fun w' s4 ⟨z',H4,I4,r4,t4,rt4,s4',E4,q4⟩=> ?_
  exact ho' pins s4 σ H4 O t2 t4 y z' u w' Q I4 (fun p=>E4.fresh) ((rt2.same sm3).same s4') rt4 r2 r4 q4
 ·cases Rep.bl_iff.mp rt3
  cases r3
  refine wpAny_truthy_bool (ite_ff ⟨.bl false,H3,I3,rfl,q3 H3 (Same.refl H3) _ (Rep.bl_ false)⟩)
 ·exact q3.elim
def tb (f:En->Rs T)(ρ:En):Rs Bool:=do
 let x <-f ρ
 match x with
 | .bl k=> .ok k
 | _=> .bad
def bt (f:En->Rs Bool)(ρ:En):Rs T:=do
 let k <-f ρ
 .ok (.bl k)
theorem qt_val {e:Expr}{f:En->Rs T}(h:bZ X e f)(he:∀ whole,isTrue e X.env whole=(do let v <-whole;standAt e.pos;holding [v] (truthy v)):=by intro _;rfl):PTt X e (tb f):=by
 intro pins s σ H Q I ⟨ρ,O,E,hq⟩
 refine pt_val h he pins s σ H Q I ?_
 obtain⟨ρ1,O1,E1,h1⟩:=aQ E hq
 refine⟨ρ1,O1,E1,Post.mono h1 fun ts H1 s1 q vs r=> ?_⟩
 obtain⟨t',r',s',E',q'⟩:=q vs r
 split at q'
 ·exact⟨_,Rep.bl_iff.mp r',q' H1 (Same.refl H1)⟩
 ·exact q'.elim
theorem qt_cmp {op:CmpOp}{g:T->T->Rs T}(ho:OpT X (compareOp op) g)(ha:bZ X a fa)(hb:bZ X b fb)(hm:behindInMarks op b=false:=by rfl):PTt X (.Compare a [op] [b] pos) (tb (o2 g fa fb)):=by
 intro pins s σ H Q I ⟨ρ,O,E,hq⟩
 have hq':Post X H (o2 g fa fb ρ) fun t H'=> ∀v,Rep X.K O H' t v->∃ k,v= .bl k/\Q k H':=Post.mono hq.bind fun t H' s' q v r=>by
  split at q
  ·exact⟨_,Rep.bl_iff.mp r,q H' (Same.refl H')⟩
  ·exact q.elim
 have h1:=aQ E hq'
 refine wpAny_isTrue_Compare1 (bK (ha pins s σ H _ I h1) fun v s1 ⟨x,H1,I1,r1,t,rt,s',E',q1⟩=> ?_) hm
 have h2:=aQ (f:=fb) E' q1
 refine bK (hb pins s1 σ H1 _ I1 h2) fun u s2 hh_=> ?_
 obtain⟨y,H2,I2,r2,t2,rt2,s'',E'',q2⟩:=hh_
 refine bK (ho pins s2 σ H2 O t t2 x y v u _ I2 (fun p=>E''.fresh) (rt.same s'') rt2 r1 r2 q2) fun d s3 hh_=> ?_
 obtain⟨z,H3,I3,r3,k,e,q3⟩:=hh_
 subst e
 cases r3
 exact wpAny_truthy_bool ⟨H3,I3,q3⟩
theorem qt_chain {op op':CmpOp}{g g':T->T->Rs T}(ho:OpT X (compareOp op) g)(ho':OpT X (compareOp op') g')(ha:bZ X a fa)(hb:bZ X b fb)(hc:bZ X c fc)
  (hm:lastMarks [op,op'] [b,c] =false:=by with_unfolding_all rfl):PTt X (.Compare a [op,op'] [b,c] pos) (tb (ch g g' fa fb fc)):=by
 intro pins s σ H Q I ⟨ρ,O,E,hq⟩
 have hq':Post X H (ch g g' fa fb fc ρ) fun t H'=> ∀v,Rep X.K O H' t v->∃ k,v= .bl k/\Q k H':=Post.mono hq.bind fun t H' s' q v r=>by
  split at q
  ·exact⟨_,Rep.bl_iff.mp r,q H' (Same.refl H')⟩
  ·exact q.elim
 have h1:=aQ E hq'
 refine isTrue_chain (bK (ha pins s σ H _ I h1) fun v s1 ⟨x,H1,I1,r1,t,rt,s',E',q1⟩=>test_link ?_) hm
 have h2:=aQ (f:=fb) E' q1
 refine bK (hb pins s1 σ H1 _ I1 h2) fun u s2 hh_=> ?_
 obtain⟨y,H2,I2,r2,t2,rt2,s'',E'',q2⟩:=hh_
 refine bK (ho pins s2 σ H2 O t t2 x y v u (fun v' H'=> ∃t',Rep X.K O H' t' v'/\Same H2 H'/\Post X H' (match t' with
  | .bl true=>fc ρ >>= fun w=>g' t2 w
  | .bl false=> .ok (.bl false)
  | _=> .bad) (fun t H'=> ∀v,Rep X.K O H' t v->∃ k,v= .bl k/\Q k H')) I2 (fun p=>E''.fresh) (rt.same s'') rt2 r1 r2 (Post.mono q2.bind fun t' H' s3 q v rv=>⟨t',rv,s3,q⟩)) fun d s3 ⟨z,H3,I3,r3,t3,rt3,sm3,q3⟩=> ?_
 have E3:=E''.same sm3
 split at q3
 ·cases Rep.bl_iff.mp rt3
  cases r3
  refine wpAny_truthy_bool (ite_tt (test_last ?_))
  have h4:=aQ (f:=fc) E3 q3
  refine bK (hc pins s3 σ H3 _ I3 h4) fun w' s4 ⟨z',H4,I4,r4,t4,rt4,s4',E4,q4⟩=> ?_
  refine bK (ho' pins s4 σ H4 O t2 t4 y z' u w' _ I4 (fun p=>E4.fresh) ((rt2.same sm3).same s4') rt4 r2 r4 q4) fun d' s5 ⟨z2,H5,I5,r5,k2,e2,q5⟩=> ?_
  subst e2
  cases r5
  exact wpAny_truthy_bool ⟨H5,I5,q5⟩
 ·cases Rep.bl_iff.mp rt3
  cases r3
  obtain⟨k,e,q⟩:=q3 H3 (Same.refl H3) _ (Rep.bl_ false)
  cases e
  exact wpAny_truthy_bool (ite_ff ⟨H3,I3,q⟩)
 ·exact q3.elim
def andB (f g:En->Rs Bool)(ρ:En):Rs Bool:=do
 let k <-f ρ
 if k then g ρ else .ok false
def orB (f g:En->Rs Bool)(ρ:En):Rs Bool:=do
 let k <-f ρ
 if k then .ok true else g ρ
def dM (f:En->Rs Bool)(ρ:En):Rs Bool:=do
 let k <-f ρ
 .ok (!k)
variable {f g:En->Rs Bool}{cq:List Expr}
abbrev PWt (X:Cx)(e:Expr)(f:En->Rs Bool):Prop:=PW X e (tPT X f)
theorem qw_and1 (ha:PTt X a f):PWt X (.BoolOp .And [a] pos) f:=pw_and1 ha
theorem qw_or1 (ha:PTt X a f):PWt X (.BoolOp .Or [a] pos) f:=pw_or1 ha
theorem qw_and (ha:PTt X a f)(hb:PWt X (.BoolOp .And (b::cq) pos) g):PWt X (.BoolOp .And (a::b::cq) pos) (andB f g):=by
 intro wh pins s σ H Q I ⟨ρ,O,E,hq⟩
 refine pw_and ha hb wh pins s σ H Q I ?_
 obtain⟨ρ1,O1,E1,h1⟩:=tPT_bind E hq
 refine⟨ρ1,O1,E1,Post.mono h1 fun k H1 s1 q=> ?_⟩
 obtain⟨s',E',q'⟩:=q
 cases k with
 | true=>rw [if_pos rfl];exact⟨ρ,O,E',by simpa using q'⟩
 | false=>rw [if_neg Bool.false_ne_true];exact q' H1 (Same.refl H1)
theorem qw_or (ha:PTt X a f)(hb:PWt X (.BoolOp .Or (b::cq) pos) g):PWt X (.BoolOp .Or (a::b::cq) pos) (orB f g):=by
 intro wh pins s σ H Q I ⟨ρ,O,E,hq⟩
 refine pw_or ha hb wh pins s σ H Q I ?_
 obtain⟨ρ1,O1,E1,h1⟩:=tPT_bind E hq
 refine⟨ρ1,O1,E1,Post.mono h1 fun k H1 s1 q=> ?_⟩
 obtain⟨s',E',q'⟩:=q
 cases k with
 | true=>rw [if_pos rfl];exact q' H1 (Same.refl H1)
 | false=>rw [if_neg Bool.false_ne_true];exact⟨ρ,O,E',by simpa using q'⟩
theorem qt_w {e:Expr}(h:PWt X e f):PTt X e f:=h.pt
theorem qt_not (ha:PTt X a f):PTt X (.UnaryOp .Not a pos) (dM f):=by
 intro pins s σ H Q I ⟨ρ,O,E,hq⟩
 refine pt_not ha pins s σ H Q I ?_
 obtain⟨ρ1,O1,E1,h1⟩:=tPT_bind E hq
 exact⟨ρ1,O1,E1,Post.mono h1 fun k H1 s1 ⟨s',E',q'⟩=>q' H1 (Same.refl H1)⟩
def cW (f g:En->Rs T)(ρ:En):Rs T:=do
 let x <-f ρ
 match x with
 | .bl true=>g ρ
 | .bl false=> .ok (.bl false)
 | _=> .bad
def orV (f g:En->Rs T)(ρ:En):Rs T:=do
 let x <-f ρ
 match x with
 | .bl true=> .ok (.bl true)
 | .bl false=>g ρ
 | _=> .bad
def notV:T->Rs T
 | .bl k=> .ok (.bl (!k))
 | _=> .bad
theorem q_one {op}(h:bZ X a fa):bZ X (.BoolOp op [a] pos) fa:=pe_one h
theorem q_and (ha:bZ X a fa)(hb:bZ X (.BoolOp .And (b::cq) pos) fb):bZ X (.BoolOp .And (a::b::cq) pos) (cW fa fb):=by
 intro pins s σ H Q I ⟨ρ,O,E,hq⟩
 refine pe_and ha hb pins s σ H Q I ?_
 obtain⟨ρ1,O1,E1,h1⟩:=aQ E hq
 refine⟨ρ1,O1,E1,Post.mono h1 fun ts H1 s1 q vs r=> ?_⟩
 obtain⟨t',r',s',E',q'⟩:=q vs r
 split at q'
 ·exact⟨true,Rep.bl_iff.mp r',by rw [if_pos rfl];exact⟨ρ,O,E',q'⟩⟩
 ·exact⟨false,Rep.bl_iff.mp r',by rw [if_neg Bool.false_ne_true];exact q' H1 (Same.refl H1) _ (Rep.bl_ false)⟩
 ·exact q'.elim
theorem q_or (ha:bZ X a fa)(hb:bZ X (.BoolOp .Or (b::cq) pos) fb):bZ X (.BoolOp .Or (a::b::cq) pos) (orV fa fb):=by
 intro pins s σ H Q I ⟨ρ,O,E,hq⟩
 refine pe_or ha hb pins s σ H Q I ?_
 obtain⟨ρ1,O1,E1,h1⟩:=aQ E hq
 refine⟨ρ1,O1,E1,Post.mono h1 fun ts H1 s1 q vs r=> ?_⟩
 obtain⟨t',r',s',E',q'⟩:=q vs r
 split at q'
 ·exact⟨true,Rep.bl_iff.mp r',by rw [if_pos rfl];exact q' H1 (Same.refl H1) _ (Rep.bl_ true)⟩
 ·exact⟨false,Rep.bl_iff.mp r',by rw [if_neg Bool.false_ne_true];exact⟨ρ,O,E',q'⟩⟩
 ·exact q'.elim
theorem q_not (ha:bZ X a fa):bZ X (.UnaryOp .Not a pos) (o1 notV fa):=by
 intro pins s σ H Q I ⟨ρ,O,E,hq⟩
 refine pe_not ha pins s σ H Q I ?_
 obtain⟨ρ1,O1,E1,h1⟩:=aQ E hq
 refine⟨ρ1,O1,E1,Post.mono h1 fun ts H1 s1 q vs r=> ?_⟩
 obtain⟨t',r',s',E',q'⟩:=q vs r
 unfold notV at q'
 split at q'
 ·exact⟨_,Rep.bl_iff.mp r',q' H1 (Same.refl H1) _ (Rep.bl_ _)⟩
 ·exact q'.elim
def ifE (f:En->Rs Bool)(fa fb:En->Rs T)(ρ:En):Rs T:=do
 let k <-f ρ
 if k then fa ρ else fb ρ
theorem q_if (hc:PTt X c f)(ha:bZ X a fa)(hb:bZ X b fb):bZ X (.IfExp c a b pos) (ifE f fa fb):=by
 intro pins s σ H Q I ⟨ρ,O,E,hq⟩
 refine pe_ifExp hc ha hb pins s σ H Q I ?_
 obtain⟨ρ1,O1,E1,h1⟩:=tPT_bind E hq
 refine⟨ρ1,O1,E1,Post.mono h1 fun k H1 s1 q=> ?_⟩
 obtain⟨s',E',q'⟩:=q
 cases k with
 | true=>rw [if_pos rfl];exact⟨ρ,O,E',by simpa using q'⟩
 | false=>rw [if_neg Bool.false_ne_true];exact⟨ρ,O,E',by simpa using q'⟩
end
end Tr
namespace HT
open PySem PyProof.Rows
section
variable {prog:Program}{w:World}{A:Around}{E:Value->Shared->Prop}{s:Shared}
theorem tupleIsExact_ {t:Addr}{items:Array Value}{Q:Bool->Shared->Prop}(ht:IsTup s.heap t items)(h:Q true s):wpAny (model prog w) A (Builtin.Tuple.tupleIsExact (.ref t)) Q E s:=by
 unfold Builtin.Tuple.tupleIsExact
 refine wpAny_bind (wpAny_typeOf ht.typeIs (wpAny_pure ?_))
 exact h
theorem getItem_tuple_whole {t sl:Addr}{items:Array Value}{vl vu:Value}{lo hi:Option Int}{Q:Value->Shared->Prop}(ht:IsTup s.heap t items)(hs:s.heap.IsSliceOf sl vl vu .none)(pl:IsPart vl lo)(pu:IsPart vu hi)
  (hw:sIx items.size 0 lo=0/\sIx items.size items.size hi=items.size) (h:Q (.ref t) s):wpAny (model prog w) A (getItem (.ref t) (.ref sl)) Q E s:=by
 obtain⟨os,hos,hcs,hds⟩:=id hs
 have hTs:s.TypeIs (.ref sl) "slice":=⟨os,hos,hcs⟩
 unfold getItem
 try with_reducible refine wpAny_holding ?_
 first | refine wpAny_bind (wpAny_pure ?_) | skip
 refine wpAny_bind (wpAny_sequenceKey ht.typeIs (by decide) ?_)
 refine wpAny_bind (wpAny_callSpecial?_slot (name:=Str.ofString "__getitem__") ht.typeIs PyProof.Rows.slot_tuple_getitem
  (wpAny_call_entry PyProof.Rows.slot_tuple_getitem ht.typeIs entry_tuple_getitem ?_ (args_tuple_getitem _ _)))
 show wpAny _ _ (Builtin.Tuple.tupleItemsOf (.ref t) >>= _) _ _ s
 refine wpAny_bind (tupleItemsOf_ ht ?_)
 refine wpAny_bind (wpAny_typeOf hTs ?_)
 rw [if_pos (by decide)]
 refine wpAny_bind (gj hs pl pu ?_)
 have hyes:(((sIx items.size 0 lo:Nat):Int) == 0&&(1:Int) == 1&&(sIx items.size items.size hi - sIx items.size 0 lo) == items.size)=true:=by
  rw [hw.1,hw.2];simp
 show wpAny _ _ (if (((sIx items.size 0 lo:Nat):Int) == 0&&(1:Int) == 1&&(sIx items.size items.size hi - sIx items.size 0 lo) == items.size)=true then _ else _) _ _ s
 rw [if_pos hyes]
 first
  | refine wpAny_bind (tupleIsExact_ ht ?_)
  | refine tupleIsExact_ ht ?_
 try rw [if_pos rfl]
 first
  | exact wpAny_bind (wpAny_rule (wpAny_pure ⟨_,rfl,wpAny_pure h⟩))
  | exact wpAny_bind (wpAny_rule (wpAny_bind (wpAny_pure (wpAny_pure ⟨_,rfl,wpAny_pure h⟩))))
theorem sliceApplied_rev {sl:Addr}{t:Tok}{n:Nat}{Q:Int×Int×Nat->Shared->Prop}(hs:s.heap.IsSliceOf sl .none .none (.int (-1) t))
  (h:Q ((n:Int) - 1,-1,n) s):wpAny (model prog w) A (Builtin.Slice.sliceApplied (.ref sl) (pure (n:Int))) Q E s:=by
 obtain⟨os,hos,hcs,hds⟩:=id hs
 unfold Builtin.Slice.sliceApplied Builtin.Slice.sliceFields
 refine wpAny_bind (wpAny_bind (wpAny_field hos hds (x:=.none) rfl (wpAny_bind (wpAny_field hos hds (x:=.none) rfl (wpAny_bind (wpAny_field hos hds (x:=.int (-1) t) rfl (wpAny_pure ?_)))))))
 refine wpAny_bind (slicePart_int ?_)
 show wpAny _ _ (if ((-1:Int) == 0)=true then _ else _) _ _ s
 rw [if_neg (by decide)]
 refine wpAny_bind (slicePart_none (wpAny_bind (slicePart_none (wpAny_bind (wpAny_pure ?_)))))
 show wpAny _ _ (match Builtin.Slice.sliceAdjust none none (-1) (n:Int)with | (lo,hi)=>pure (lo,(-1:Int),Builtin.Slice.slicePlaces lo hi (-1))) _ _ s
 have e1:Builtin.Slice.sliceAdjust none none (-1) (n:Int)=((n:Int) - 1,-1):=by simp [Builtin.Slice.sliceAdjust]
 have e2:Builtin.Slice.slicePlaces ((n:Int) - 1) (-1) (-1)=n:=by
  unfold Builtin.Slice.slicePlaces
  simp only [show ¬((-1:Int) > 0)by decide,if_false,Int.neg_neg,Int.ediv_one]
  split <;> omega
 rw [e1]
 show wpAny _ _ (pure ((n:Int) - 1,(-1:Int),Builtin.Slice.slicePlaces ((n:Int) - 1) (-1) (-1))) _ _ s
 rw [e2]
 exact wpAny_pure h
theorem pick_rev (xs:List Value):((List.range xs.length).filterMap fun(m:Nat)=>xs.toArray[(((xs.length:Int) - 1)+(m:Int)*(-1)).toNat]?)=xs.reverse:=by
 apply List.ext_getElem?
 intro i
 have key:∀ m∈List.range xs.length,xs.toArray[(((xs.length:Int) - 1)+(m:Int)*(-1)).toNat]? =some (xs.reverse.getD m .none):=fun m hm=>by
  have hm':m<xs.length:=List.mem_range.mp hm
  have e:(((xs.length:Int) - 1)+(m:Int)*(-1)).toNat=xs.length - 1 - m:=by omega
  rw [e,List.getElem?_toArray,List.getElem?_eq_getElem (by omega)]
  have:m<xs.reverse.length:=by simpa using hm'
  simp [List.getD,List.getElem?_eq_getElem this,List.getElem_reverse]
 have hmap:((List.range xs.length).filterMap fun(m:Nat)=>xs.toArray[(((xs.length:Int) - 1)+(m:Int)*(-1)).toNat]?)=(List.range xs.length).map fun m=>xs.reverse.getD m .none:=by
  have gen:∀ (r:List Nat) (f:Nat->Option Value) (g:Nat->Value),(∀m∈r,f m=some (g m))->r.filterMap f=r.map g:=by
   intro r f g
   induction r with
   | nil=>intro _;rfl
   | cons m r ih=>
    intro h
    rw [List.filterMap_cons,h m List.mem_cons_self,List.map_cons,ih fun m' hm'=>h m' (List.mem_cons_of_mem _ hm')]
  exact gen _ _ _ key
 rw [hmap]
 rw [List.getElem?_map]
 by_cases hi:i<xs.length
 ·have hr:i<xs.reverse.length:=by simpa using hi
  rw [List.getElem?_range hi]
  simp [List.getD,List.getElem?_eq_getElem hr]
 ·rw [List.getElem?_eq_none (by simpa using hi),List.getElem?_eq_none (by simpa using hi)]
  rfl
theorem slicePick_rev (xs:List Value):slicePick xs.toArray none none (some (-1))=xs.reverse.toArray:=by
 have e:slicePick xs.toArray none none (some (-1))=((sliceRange ((xs.toArray.size:Int) - 1) (-1) (-1)).filterMap (xs.toArray[·]?)).toArray:=rfl
 rw [e,<-pick_rev xs,List.size_toArray]
 unfold sliceRange
 have c:(if ((xs.length:Int) - 1) > -1 then(((xs.length:Int) - 1) - (-1) - (-1) - 1) / (-(-1:Int))else 0).toNat=xs.length:=by
  rw [Int.neg_neg,Int.ediv_one]
  split <;> omega
 show(((List.range (if ((xs.length:Int) - 1) > -1 then(((xs.length:Int) - 1) - (-1) - (-1) - 1) / (-(-1:Int))else 0).toNat).map fun(k:Nat)=>(((xs.length:Int) - 1)+(-1)*(k:Int)).toNat).filterMap (xs.toArray[·]?)).toArray=_
 rw [c,List.filterMap_map]
 congr 2
 funext k
 show xs.toArray[(((xs.length:Int) - 1)+(-1)*(k:Int)).toNat]? =_
 rw [Int.mul_comm]
theorem getItem_tuple_rev {u sl:Addr}{items:List Value}{t:Tok}{Q:Value->Shared->Prop}(ht:IsTup s.heap u items.toArray)(hs:s.heap.IsSliceOf sl .none .none (.int (-1) t))
  (h:Q (.ref s.heap.objs.size) { s with heap:=s.heap.push { cls:=.type "tuple",data:=.seq items.reverse.toArray } })
  (hsz:items.length<=sizeLine):wpAny (model prog w) A (getItem (.ref u) (.ref sl)) Q E s:=by
 have htake:sizeOk (.seq items.reverse.toArray):=by
  show items.reverse.toArray.size<=sizeLine
  simpa using hsz
 obtain⟨os,hos,hcs,hds⟩:=id hs
 have hTs:s.TypeIs (.ref sl) "slice":=⟨os,hos,hcs⟩
 unfold getItem
 try with_reducible refine wpAny_holding ?_
 first | refine wpAny_bind (wpAny_pure ?_) | skip
 refine wpAny_bind (wpAny_sequenceKey ht.typeIs (by decide) ?_)
 refine wpAny_bind (wpAny_callSpecial?_slot (name:=Str.ofString "__getitem__") ht.typeIs PyProof.Rows.slot_tuple_getitem
  (wpAny_call_entry PyProof.Rows.slot_tuple_getitem ht.typeIs entry_tuple_getitem ?_ (args_tuple_getitem _ _)))
 show wpAny _ _ (Builtin.Tuple.tupleItemsOf (.ref u) >>= _) _ _ s
 refine wpAny_bind (tupleItemsOf_ ht ?_)
 refine wpAny_bind (wpAny_typeOf hTs ?_)
 rw [if_pos (by decide)]
 refine wpAny_bind (sliceApplied_rev (n:=items.toArray.size) hs ?_)
 show wpAny _ _ (if ((((items.toArray.size:Nat):Int) - 1) == 0&&(-1:Int) == 1&&items.toArray.size == items.toArray.size)=true then _ else _) _ _ s
 rw [if_neg (by simp)]
 have e:((List.range items.toArray.size).filterMap fun(m:Nat)=>items.toArray[((((items.toArray.size:Nat):Int) - 1)+(m:Int)*(-1)).toNat]?)=items.reverse:=by
  rw [List.size_toArray];exact pick_rev items
 rw [e]
 first
  | exact wpAny_bind (m:=Builtin.Tuple.tupleExact _) (wpAny_newObj_type (wpAny_pure ⟨_,rfl,wpAny_pure h⟩) htake)
  | exact wpAny_bind (m:=Builtin.Tuple.tupleExact _) (wpAny_newObj_type (wpAny_bind (wpAny_pure (wpAny_pure ⟨_,rfl,wpAny_pure h⟩))) htake)
  | exact wpAny_bind (wpAny_bind (m:=Builtin.Tuple.tupleExact _) (wpAny_newObj_type (wpAny_pure (wpAny_pure ⟨_,rfl,wpAny_pure h⟩)) htake))
  | exact wpAny_bind (wpAny_bind (m:=Builtin.Tuple.tupleExact _) (wpAny_newObj_type (wpAny_pure ⟨_,rfl,wpAny_pure h⟩) htake))
end
end HT
namespace Tr
open PySem PySem.Spec PyProof.Rows L2
section
variable {X:Cx}{a b c:Expr}{fa fb fc:En->Rs T}{pos:Pos}
theorem Reps.atI {K:PySem.W.Frag}{O:Ow}{H:Hp}{l:List T}{vs:List V}{i:Int}{t:T}(r:Reps K O H l vs)(e:L2.atI l i=some t):∃ v,L2.atI vs i=some v/\Rep K O H t v:=by
 unfold L2.atI at e ⊢
 rw [r.length]at e
 cases q:ixN vs.length i with
 | none=>rw [q]at e;cases e
 | some j=>
  rw [q]at e
  obtain⟨v,e1,e2⟩:=r.get (i:=j) (t:=t) e
  exact⟨v,e1,e2⟩
def aO (x y:T):Rs T:=match x.items,y with
 | some l,.int i=>match L2.atI l i with
  | some t=> .ok t
  | none=> .bad
 | _,_=> .bad
theorem q_ix (ha:bZ X a fa)(hb:bZ X b fb)(hs:PlainIx b:=by intro _ _;rfl):bZ X (.Subscript a b pos) (o2 aO fa fb):=by
 intro pins s σ H Q I ⟨ρ,O,E,hq⟩
 have h1:=aQ E hq
 refine Subscript_ (bK (ha pins s σ H _ I h1) fun v s1 hh_=> ?_)
 obtain⟨x,H1,I1,r1,t,rt,s',E',q1⟩:=hh_
 have h2:=aQ (f:=fb) E' q1
 refine bK (hb pins s1 σ H1 _ I1 h2) fun u s2 hh_=> ?_
 obtain⟨y,H2,I2,r2,t2,rt2,s'',E'',q2⟩:=hh_
 have rt':=rt.same s''
 unfold aO at q2
 split at q2
 ·rename_i l i hl
  split at q2
  ·rename_i z hz
   have hy:=Rep.int_iff.mp rt2
   refine ix_seq a b pins s2 σ H2 x y v u Q I2 r1 r2 ?_ (hs _ _)
   cases t with
   | tup m=>
    cases hl
    obtain⟨p,vs,e,n,q,rr⟩:=Rep.tup_iff.mp rt'
    obtain⟨w,ew,rw'⟩:=rr.atI hz
    exact .inr (.inl ⟨p,vs,i,w,e,hy,SqT.of q,ew,q2 H2 (Same.refl H2) _ rw'⟩)
   | lst m=>
    cases hl
    obtain⟨p,vs,e,n,q,rr⟩:=Rep.lst_iff.mp rt'
    obtain⟨w,ew,rw'⟩:=rr.atI hz
    exact .inl ⟨p,vs,i,w,e,hy,SqL.of q,ew,q2 H2 (Same.refl H2) _ rw'⟩
   | scr m=>
    cases hl
    unfold Rep at rt'
    obtain⟨p,e,n,q⟩:=rt'
    obtain⟨w,ew,rw'⟩:=(Reps.ints (K:=X.K) (O:=O) (H:=H2) (ns:=m)).atI hz
    exact .inl ⟨p,_,i,w,e,hy,q,ew,q2 H2 (Same.refl H2) _ rw'⟩
   | _=>cases hl
  ·exact q2.elim
 ·exact q2.elim
def cutT (l:List T)(lo hi:Option Int):List T:=(l.drop (HT.sIx l.length 0 lo)).take (HT.sIx l.length l.length hi - HT.sIx l.length 0 lo)
theorem Reps.cut {K:PySem.W.Frag}{O:Ow}{H:Hp}{l:List T}{vs:List V}(r:Reps K O H l vs)(lo hi:Option Int):Reps K O H (cutT l lo hi) (cutV vs lo hi):=by
 unfold cutT cutV
 rw [r.length]
 exact(r.drop _).take _
theorem cut_whole {l:List T}{lo hi:Option Int}(h:HT.sIx l.length 0 lo=0/\HT.sIx l.length l.length hi=l.length):cutT l lo hi=l:=by
 unfold cutT
 rw [h.1,h.2]
 simp
theorem sl_tup_whole:SlR X (fun x lo hi H Q=> ∃a xs,x= .ref a/\SqT X.K H a xs/\(HT.sIx xs.length 0 lo=0/\HT.sIx xs.length xs.length hi=xs.length)/\Q (.ref a) H):=by
 intro pins s σ H x v vl vu lo hi sl Q I rx hs pl pu h
 obtain⟨a,xs,rfl,hx,hw,q⟩:=h
 cases rx
 obtain⟨its,r,ht,hz⟩:=I.tuple hx
 have hlen:its.toArray.size=xs.length:=by rw [List.size_toArray];exact r.length.symm
 refine⟨"tuple",_,PyProof.Rows.slot_tuple_getitem.lookup,ht.typeIs,?_⟩
 exact HT.getItem_tuple_whole ht hs pl pu (by rw [hlen];exact hw) ⟨.ref a,H,I,rfl,q⟩
def pN (_:En):Rs (Option Int):=.ok none
def pS (f:En->Rs T)(ρ:En):Rs (Option Int):=do
 let x <-f ρ
 match x with
 | .int i=> .ok (some i)
 | _=> .bad
def tPO (X:Cx)(f:En->Rs (Option Int)):TO:=fun σ H Q=> ∃ρ O,EnvO X.K O H ρ σ/\Post X H (f ρ) fun b H'=>Q b H'
abbrev POt (X:Cx)(e:Option Expr)(f:En->Rs (Option Int)):Prop:=PO X e (tPO X f)
theorem qp_none:POt X none pN:=by
 intro pins s σ H Q I ⟨ρ,O,E,hq⟩
 exact po_none pins s σ H Q I (hq H (Same.refl H))
theorem qp_some (ha:bZ X a fa):POt X (some a) (pS fa):=by
 intro pins s σ H Q I ⟨ρ,O,E,hq⟩
 refine po_some ha pins s σ H Q I ?_
 obtain⟨ρ1,O1,E1,h1⟩:=aQ E hq
 refine⟨ρ1,O1,E1,Post.mono h1 fun ts H1 s1 q vs r=> ?_⟩
 obtain⟨t',r',s',E',q'⟩:=q vs r
 split at q'
 ·exact⟨_,Rep.int_iff.mp r',q' H1 (Same.refl H1)⟩
 ·exact q'.elim
def slT (x:T)(lo hi:Option Int):Rs T:=match x with
 | .tup l=> .ok (.tup (cutT l lo hi))
 | .lst l=> .ok (.lst (cutT l lo hi))
 | _=> .bad
def sl (fe:En->Rs T)(fl fu:En->Rs (Option Int))(ρ:En):Rs T:=do
 let x <-fe ρ
 let l <-fl ρ
 let u <-fu ρ
 slT x l u
theorem tPO_bind {σ:L2.St}{H:Hp}{ρ:En}{O:Ow}{α:Type}{f:En->Rs (Option Int)}{k:Option Int->Rs α}{Q:α->Hp->Prop}(E:EnvO X.K O H ρ σ)(h:Post X H (f ρ >>= k) Q) :
  tPO X f σ H fun b H'=>Same H H'/\EnvO X.K O H' ρ σ/\Post X H' (k b) Q:=
 ⟨ρ,O,E,Post.mono h.bind fun t H' s q=>⟨s,E.same s,q⟩⟩
theorem q_slice {lo hi:Option Expr}{p2:Pos}{fl fu:En->Rs (Option Int)}(ha:bZ X a fa)(hl:POt X lo fl)(hu:POt X hi fu):bZ X (.Subscript a (.Slice lo hi none p2) pos) (sl fa fl fu):=by
 intro pins s σ H Q I ⟨ρ,O,E,hq⟩
 refine pe_slice (sl_tup.or (sl_tup_whole.or sl_list)) ha hl hu pins s σ H Q I ?_
 obtain⟨ρ1,O1,E1,h1⟩:=aQ E hq
 refine⟨ρ1,O1,E1,Post.mono h1 fun ts H1 s1 q vs r=> ?_⟩
 obtain⟨t',r',s',E',q'⟩:=q vs r
 obtain⟨ρ2,O2,E2,h2⟩:=tPO_bind E' q'
 refine⟨ρ2,O2,E2,Post.mono h2 fun o1 H2 s2 q=> ?_⟩
 obtain⟨s2',E2',q2⟩:=q
 obtain⟨ρ3,O3,E3,h3⟩:=tPO_bind E2' q2
 refine⟨ρ3,O3,E3,Post.mono h3 fun o2 H3 s3 q=> ?_⟩
 obtain⟨s3',E3',q3⟩:=q
 have rt:=(r'.same s2').same s3'
 unfold slT at q3
 split at q3
 ·rename_i l
  obtain⟨p,ws,e,n,q,rr⟩:=Rep.tup_iff.mp rt
  have hlen:=rr.length
  by_cases hw:HT.sIx ws.length 0 o1=0/\HT.sIx ws.length ws.length o2=ws.length
  ·refine .inr (.inl ⟨p,ws,e,SqT.of q,hw,?_⟩)
   rw [<-hlen]at hw
   refine q3 H3 (Same.refl H3) _ ?_
   rw [cut_whole hw]
   exact Rep.tup_iff.mpr ⟨p,ws,rfl,n,q,rr⟩
  ·exact .inl ⟨p,ws,e,SqT.of q,hw,fun p' hp=>q3 _ (aS hp _) _ (fJ hp (E3'.fresh hp) (rr.cut o1 o2))⟩
 ·rename_i l
  obtain⟨p,ws,e,n,q,rr⟩:=Rep.lst_iff.mp rt
  exact .inr (.inr ⟨p,ws,e,SqL.of q,fun p' hp=>q3 _ (aS hp _) _ (rep_newL hp (E3'.fresh hp) (rr.cut o1 o2))⟩)
 ·exact q3.elim
def revT:T->Rs T
 | .tup l=> .ok (.tup l.reverse)
 | .lst l=> .ok (.lst l.reverse)
 | _=> .bad
theorem Reps.reverse {K:PySem.W.Frag}{O:Ow}{H:Hp}:∀ {l:List T} {vs:List V},Reps K O H l vs->Reps K O H l.reverse vs.reverse
 | [],vs,r=>by rw [Reps.nil_iff.mp r];exact Reps.nil_
 | t::l,vs,r=>by
  obtain⟨v,us,rfl,p,q⟩:=Reps.cons_iff.mp r
  rw [List.reverse_cons,List.reverse_cons]
  exact q.reverse.append (Reps.cons_ p Reps.nil_)
theorem q_rev {j:Nat}{p1 p2 p3:Pos}(ha:bZ X a fa):bZ X (.Subscript a (.Slice none none (some (.UnaryOp .USub (.Constant (.int 1) j p1) p2)) p3) pos) (o1 revT fa):=by
 intro pins s σ H Q I ⟨ρ,O,E,hq⟩
 have h1:=aQ E hq
 refine Subscript_ (bK (ha pins s σ H _ I h1) fun v s1 hh_=> ?_)
 obtain⟨x,H1,I1,r1,t,rt,s',E',q1⟩:=hh_
 refine wpAny_Slice ?_
 rw [evalPart_none]
 refine wpAny_pure (wpAny_pure ?_)
 rw [evalPart_some]
 refine bK (pe_un un_neg pe_int pins s1 σ H1 (fun w' H'=>w'= .int (-1)/\H'=H1) I1 ⟨1,rfl,rfl,rfl⟩) fun sv s2 hh_=> ?_
 obtain⟨w',H2,I2,r2,e1,e2⟩:=hh_
 subst e1 e2
 obtain⟨tk,rfl⟩:=r2
 have I4:Inv X pins σ H2 { s2 with heap:=s2.heap.push { cls:=.type "slice",data:=.fields #[.none,.none,.int (-1) tk] } }:=I2.kept (t':=s2.toks) fun b ob q=>Heap.get?_push_of_some _ q
 unfold revT at q1
 split at q1
 ·rename_i l
  obtain⟨p,ws,e,n,q,rr⟩:=Rep.tup_iff.mp rt
  subst e
  cases r1
  obtain⟨its,r,ht,hz⟩:=I4.tuple (SqT.of q)
  have hs:Heap.IsSliceOf (s2.heap.push { cls:=.type "slice",data:=.fields #[.none,.none,.int (-1) tk] }) s2.heap.objs.size .none .none (.int (-1) tk):=Heap.IsSliceOf.new ..
  refine tail_any (ops:=[.ref p,.ref s2.heap.objs.size]) ht.typeIs PyProof.Rows.slot_tuple_getitem.lookup ?_ (by with_unfolding_all rfl)
  refine HT.getItem_tuple_rev ht hs ?_ (by rw [<-r.length];exact hz)
  refine⟨.ref _,_,I4.laid (t':=s2.toks) (o:=.tup ws.reverse) (fun b ob q=>Heap.get?_push_of_some _ q) (Nat.le_refl _) ?_,rfl,?_⟩
  ·exact⟨by rw [List.length_reverse];exact hz,_,r.reverse,IsTup.new _ _⟩
  ·have hn:=I4.hok.fresh (Nat.le_refl _)
   exact q1 _ (aS hn _) _ (fJ hn (E'.fresh hn) rr.reverse)
 ·rename_i l
  obtain⟨p,ws,e,n,q,rr⟩:=Rep.lst_iff.mp rt
  subst e
  cases r1
  obtain⟨its,r,ht,hz⟩:=I4.list (SqL.of q)
  have hs:Heap.IsSliceOf (s2.heap.push { cls:=.type "slice",data:=.fields #[.none,.none,.int (-1) tk] }) s2.heap.objs.size .none .none (.int (-1) tk):=Heap.IsSliceOf.new ..
  refine tail_any (ops:=[.ref p,.ref s2.heap.objs.size]) ht.isList.typeIs slot_list_getitem.lookup ?_ (by with_unfolding_all rfl)
  refine wpAny_getItem_list_slice ht.isList hs .none .none (.int (-1) tk) (by simp) ?_ (by rw [List.size_toArray,<-r.length];exact hz)
  rw [HT.slicePick_rev]
  refine⟨.ref _,_,I4.laid (t':=s2.toks) (o:=.lst ws.reverse) (fun b ob q=>Heap.get?_push_of_some _ q) (Nat.le_refl _) ?_,rfl,?_⟩
  ·exact⟨by rw [List.length_reverse];exact hz,_,0,r.reverse,Heap.get?_push_size _ rfl⟩
  ·have hn:=I4.hok.fresh (Nat.le_refl _)
   exact q1 _ (aS hn _) _ (rep_newL hn (E'.fresh hn) rr.reverse)
 ·exact q1.elim
def CallT (X:Cx)(f:Value)(g:List T->Rs T):Prop:=
 ∀(pins:List (Addr×Obj)) (s:Shared) (σ:L2.St) (H:Hp) (O:Ow) (ts:List T) (vs:List V) (us:List Value) (Q:VK),Inv X pins σ H s->(∀p,H p=none->¬ O p)->Reps X.K O H ts vs->Vals vs us →
  Post X H (g ts) (fun t H'=> ∀v,Rep X.K O H' t v->Q v H')->wpAny (model X.prog X.w) X.A (call f us) (EP X pins σ Q) X.xe s
theorem CallT.of {f:Value}{r:List V->Hp->VK->Prop}(h:CallR X f r){g:List T->Rs T}
  (w:∀ (H:Hp) (O:Ow) (ts:List T) (vs:List V) (Q:VK),(∀p,H p=none->¬ O p)->Reps X.K O H ts vs->Post X H (g ts) (fun t H'=> ∀v,Rep X.K O H' t v->Q v H')->r vs H Q):CallT X f g:=
 fun pins s σ H O ts vs us Q I hf rs rv hp=>h pins s σ H vs us Q I rv (w H O ts vs Q hf rs hp)
def cl (g:List T->Rs T)(fs:En->Rs (List T))(ρ:En):Rs T:=fs ρ >>= g
variable {e:Expr}{es:List Expr}{fs:En->Rs (List T)}{x:Str}{p:Pos}{id:String}{g:List T->Rs T}
theorem q_callB (hc:CallT X (.builtin id) g)(hm:X.mg x=none)(hv:bootBuiltins x=some (.builtin id))(ha:PAt X (e::es) fs)(hg:Gl X x:=by rfl)(hn:x≠ "__name__":=by decide)(hdb:(x == ("__debug__" : Str))=false:=by decide)
  (he:starEach (e::es) X.env=(false,eval e X.env)::starEach es X.env:=by rfl) (hpl:(backTo pos (starEach es X.env)).any (·.1)=false:=by rfl):bZ X (.Call (.Name x p) (e::es) [] pos) (cl g fs):=by
 intro pins s σ H Q I ⟨ρ,O,E,hq⟩
 refine wpAny_Call_Name_kw (fN I hg hm hv ?_ hn hdb)
 have h1:=fD E hq
 exact PyProof.Rows.callWith_builtin1 (bK (ha pos pins s σ H _ I h1) fun us s1 ⟨vs,H1,I1,r1,ts,rs,s',E',q1⟩=>hc pins s1 σ H1 O ts vs us Q I1 (fun p=>E'.fresh) rs r1 q1) he hpl
theorem q_callTy {Ty:String}(hc:CallT X (.type Ty) g)(hm:X.mg x=none)(hv:bootBuiltins x=some (.type Ty))(ha:PAt X (e::es) fs)(hg:Gl X x:=by rfl)(hn:x≠ "__name__":=by decide)(hdb:(x == ("__debug__" : Str))=false:=by decide)
  (he:starEach (e::es) X.env=(false,eval e X.env)::starEach es X.env:=by rfl) (hpl:(backTo pos (starEach es X.env)).any (·.1)=false:=by rfl):bZ X (.Call (.Name x p) (e::es) [] pos) (cl g fs):=by
 intro pins s σ H Q I ⟨ρ,O,E,hq⟩
 refine wpAny_Call_Name_kw (fN I hg hm hv ?_ hn hdb)
 have h1:=fD E hq
 exact PyProof.Rows.callWith_type1 (bK (ha pos pins s σ H _ I h1) fun us s1 ⟨vs,H1,I1,r1,ts,rs,s',E',q1⟩=>hc pins s1 σ H1 O ts vs us Q I1 (fun p=>E'.fresh) rs r1 q1) he hpl
theorem Reps.one {K:PySem.W.Frag}{O:Ow}{H:Hp}{t:T}{vs:List V}(r:Reps K O H [t] vs):∃ v,vs= [v]/\Rep K O H t v:=by
 obtain⟨v,ws,rfl,p,q⟩:=Reps.cons_iff.mp r
 cases Reps.nil_iff.mp q
 exact⟨v,rfl,p⟩
theorem Rep.sq {K:PySem.W.Frag}{O:Ow}{H:Hp}{t:T}{v:V}{l:List T}(r:Rep K O H t v)(h:t.items=some l):∃ a vs,v= .ref a/\¬ O a/\Reps K O H l vs/\(SqL K H a vs\/SqT K H a vs):=by
 cases t with
 | tup m=>cases h;obtain⟨a,vs,e,n,q,z⟩:=Rep.tup_iff.mp r;exact⟨a,vs,e,n,z,.inr (SqT.of q)⟩
 | lst m=>cases h;obtain⟨a,vs,e,n,q,z⟩:=Rep.lst_iff.mp r;exact⟨a,vs,e,n,z,.inl (SqL.of q)⟩
 | scr m=>cases h;unfold Rep at r;obtain⟨a,e,n,q⟩:=r;exact⟨a,_,e,n,Reps.ints,.inl q⟩
 | _=>cases h
def bV:List T->Rs T
 | [.str x] =>if x.length<=sizeLine then .ok (.int x.length)else .bad
 | [x] =>match x.items with
  | some l=> .ok (.int l.length)
  | none=> .bad
 | _=> .bad
theorem cC:CallT X (.builtin "len") bV:=CallT.of (call_len_seq.or call_len_str) fun H O ts vs Q hf rs hp=>by
 unfold bV at hp
 split at hp
 ·obtain⟨v,rfl,r⟩:=rs.one
  split at hp
  ·rename_i h
   exact .inr ⟨_,by rw [Rep.str_iff.mp r],h,hp H (Same.refl H) _ (Rep.int_ _)⟩
  ·exact hp.elim
 ·obtain⟨v,rfl,r⟩:=rs.one
  split at hp
  ·rename_i l hl
   obtain⟨a,vs,rfl,n,z,q⟩:=r.sq hl
   exact .inl ⟨a,vs,rfl,q,hp H (Same.refl H) _ (by rw [<-z.length];exact Rep.int_ _)⟩
  ·exact hp.elim
 ·exact hp.elim
def gu:List T->Rs T
 | [.tup l] => .ok (.tup l)
 | [.lst l] => .ok (.tup l)
 | _=> .bad
theorem ct_tuple:CallT X (.type "tuple") gu:=CallT.of call_tuple_of fun H O ts vs Q hf rs hp=>by
 unfold gu at hp
 split at hp
 ·obtain⟨v,rfl,r⟩:=rs.one
  obtain⟨a,ws,rfl,n,q,z⟩:=Rep.tup_iff.mp r
  exact⟨a,ws,rfl,.inr ⟨SqT.of q,hp H (Same.refl H) _ (Rep.tup_iff.mpr ⟨a,ws,rfl,n,q,z⟩)⟩⟩
 ·obtain⟨v,rfl,r⟩:=rs.one
  obtain⟨a,ws,rfl,n,q,z⟩:=Rep.lst_iff.mp r
  exact⟨a,ws,rfl,.inl ⟨SqL.of q,fun l hl=>hp _ (aS hl _) _ (fJ hl (hf l hl) z)⟩⟩
 ·exact hp.elim
def intT:List T->Rs T
 | [.int i] => .ok (.int i)
 | [.bl k] => .ok (.int (if k then 1 else 0))
 | _=> .bad
theorem ct_int:CallT X (.type "int") intT:=CallT.of call_int1 fun H O ts vs Q hf rs hp=>by
 unfold intT at hp
 split at hp
 ·obtain⟨v,rfl,r⟩:=rs.one
  exact .inl ⟨_,by rw [Rep.int_iff.mp r],hp H (Same.refl H) _ (Rep.int_ _)⟩
 ·obtain⟨v,rfl,r⟩:=rs.one
  exact .inr ⟨_,by rw [Rep.bl_iff.mp r],hp H (Same.refl H) _ (Rep.int_ _)⟩
 ·exact hp.elim
def bools:List T->Option (List Bool)
 | [] =>some []
 | .bl k::r=>(bools r).map (k:: ·)
 | _=>none
def allT:List T->Rs T
 | [.lst l] =>match bools l with
  | some ks=> .ok (.bl (ks.all fun k=>k))
  | none=> .bad
 | _=> .bad
theorem bools_vals {K:PySem.W.Frag}{O:Ow}{H:Hp}:∀ {l:List T} {ks:List Bool} {vs:List V} {us:List Value},bools l=some ks->Reps K O H l vs->Vals vs us->us=ks.map Value.bool
 | [],ks,vs,us,e,r,v=>by cases e;cases Reps.nil_iff.mp r;cases v;rfl
 | t::l,ks,vs,us,e,r,v=>by
  obtain⟨w,ws,rfl,p,q⟩:=Reps.cons_iff.mp r
  cases t with
  | bl k=>
   unfold bools at e
   cases z:bools l with
   | none=>rw [z]at e;cases e
   | some ks'=>
    rw [z]at e
    cases e
    cases v with
    | cons v1 v2=>
     cases Rep.bl_iff.mp p
     cases v1
     rw [bools_vals z q v2];rfl
  | _=>cases e
theorem ct_all (hc:X.calm=true):CallT X (.builtin "all") allT:=by
 intro pins s σ H O ts vs us Q I hf rs rv hp
 unfold allT at hp
 split at hp
 ·obtain⟨v,rfl,r⟩:=rs.one
  split at hp
  ·rename_i ks hk
   obtain⟨a,ws,rfl,n,q,z⟩:=Rep.lst_iff.mp r
   obtain⟨u,rfl,ru⟩:=vals1 rv
   cases ru
   obtain⟨its,r',pl,hz⟩:=I.list (SqL.of q)
   have hits:=bools_vals hk z r'
   refine call_all_walk (wpAny_pyIter_list pl.isList ?_)
   have hne:a≠s.heap.objs.size:=fun e=>by
    obtain⟨o,ho,_⟩:=pl.isList
    rw [e]at ho
    exact absurd (Heap.lt_size ho) (Nat.lt_irrefl _)
   refine⟨s.heap.objs.size,_,_,_,_,_,fun i=>(ks[i]?).getD true,rfl,Walks.list (A:=X.A.in1) (I.ok.hd hc) s.heap.objs.size a hne its.toArray,⟨⟨_,Heap.get?_push_size _ rfl,rfl,rfl⟩,?_⟩,?_,?_⟩
   ·obtain⟨o,ho,hh⟩:=pl.isList
    exact⟨o,Heap.get?_push_of_some _ ho,hh⟩
   ·intro i v s' Q' E' hP hQ'
    subst hits
    dsimp only at hQ'
    have hP':(ks.map Value.bool)[i]? =some v:=by simpa using hP
    rw [List.getElem?_map]at hP'
    cases e:ks[i]? with
    | none=>rw [e]at hP';cases hP'
    | some k=>
     rw [e]at hP' hQ'
     cases hP'
     exact wpAny_truthy_bool hQ'
   ·intro h' tk hk'
    have hlen:its.toArray.size=ks.length:=by rw [hits];simp
    have e:((List.range its.toArray.size).all fun i=>(ks[i]?).getD true)=(ks.all fun k=>k):=by
     rw [hlen]
     rw [Bool.eq_iff_iff,List.all_eq_true,List.all_eq_true]
     constructor
     ·intro h x hx
      obtain⟨i,hi,rfl⟩:=List.getElem_of_mem hx
      have:=h i (List.mem_range.mpr hi)
      simpa [hi]using this
     ·intro h i hi
      have hi':=List.mem_range.mp hi
      have:=h ks[i] (List.getElem_mem hi')
      simpa [hi']using this
    rw [e]
    have I1:Inv X pins σ H { s with heap:=s.heap.push { cls:=.type "list_iterator",data:=.fields #[.ref a,.int 0 0] } }:=I.kept (t':=s.toks) fun b o e=>Heap.get?_push_of_some _ e
    have I2:Inv X pins σ H { s with heap:=h',toks:=tk }:=by
     have:=I1.turned (h':=h') (t':=tk) (it:=s.heap.objs.size) (fun b o hb e=>hk' b o (by simpa using hb) e) (I.hok.fresh (Nat.le_refl _))
      (Nat.ne_of_gt I.lt) (.inr I.sz) (fun x c e z=> ?_) (fun p hp z=> ?_)
     ·exact this
     ·obtain⟨v,q⟩:=I.cell x c e
      exact absurd (Nat.lt_of_lt_of_le q.lt (Nat.le_of_eq z.symm)) (Nat.lt_irrefl _)
     ·exact absurd (Nat.lt_of_lt_of_le (Heap.lt_size (I.pin p hp).1) (Nat.le_of_eq z.symm)) (Nat.lt_irrefl _)
    exact⟨.bl _,H,I2,rfl,hp H (Same.refl H) _ (Rep.bl_ _)⟩
  ·exact hp.elim
 ·exact hp.elim
end
def T.ty:T->Option String
 | .non=>some "NoneType"
 | .bl _=>some "bool"
 | .int _=>some "int"
 | .str _=>some "str"
 | .tup _=>some "tuple"
 | .lst _=>some "list"
 | .scr _=>none
 | .dct _ _=>none
def five (i b t l s:Bool)(Ty:String):Option Bool:=match Ty with
 | "int" =>some i | "bool" =>some b | "tuple" =>some t | "list" =>some l | "str" =>some s
 | _=>none
def isOne (n Ty:String):Option Bool:=match n with
 | "NoneType" =>five false false false false false Ty
 | "bool" =>five true true false false false Ty
 | "int" =>five true false false false false Ty
 | "str" =>five false false false false true Ty
 | "tuple" =>five false false true false false Ty
 | "list" =>five false false false true false Ty
 | _=>none
theorem isOne_kit (K:PySem.W.Frag){n Ty:String}{b:Bool}(h:isOne n Ty=some b):PySem.W.kitOne K (.type n) (.type Ty)=some b:=by
 unfold isOne at h
 split at h <;> first | (cases h;done) | (unfold five at h;split at h <;> first | (cases h;done) | (cases h;kernel_rfl))
def isT (Ty:String)(t:T):Rs T:=match t.ty with
 | some n=>match isOne n Ty with
  | some b=> .ok (.bl b)
  | none=> .bad
 | none=> .bad
theorem Rep.tyOf {K:PySem.W.Frag}{O:Ow}{H:Hp}{t:T}{v:V}{n:String}(r:Rep K O H t v)(h:t.ty=some n):TyOf K H v (.type n):=by
 cases t with
 | non=>cases h;cases Rep.non_iff.mp r;exact .non
 | bl b=>cases h;cases Rep.bl_iff.mp r;exact .bl b
 | int b=>cases h;cases Rep.int_iff.mp r;exact .int b
 | str b=>cases h;cases Rep.str_iff.mp r;exact .str b
 | tup l=>cases h;obtain⟨a,vs,rfl,_,q,_⟩:=Rep.tup_iff.mp r;exact .tup q
 | lst l=>cases h;obtain⟨a,vs,rfl,_,q,_⟩:=Rep.lst_iff.mp r;exact .lst q
 | scr l=>cases h
 | dct _ _=>cases h
section
variable {X:Cx}{a b c e:Expr}{es:List Expr}{fa fb fc:En->Rs T}{fs:En->Rs (List T)}{pos p p2:Pos}{x:Str}
theorem eU:bootBuiltins "isinstance" =some (.builtin "isinstance"):=by decide+kernel
theorem q_isi {tn:Str}{Ty:String}(hm:X.mg "isinstance" =none)(hmt:X.mg tn=none)(hv:bootBuiltins tn=some (.type Ty))(ha:bZ X a fa)(hg:Gl X "isinstance":=by rfl)(hgt:Gl X tn:=by rfl)
  (hn:tn≠ "__name__":=by decide) (hd:(tn == ("__debug__" : Str))=false:=by decide)
  (he:starEach [a,.Name tn p2] X.env=(false,eval a X.env)::starEach [.Name tn p2] X.env:=by rfl) (hpl:(backTo pos (starEach [.Name tn p2] X.env)).any (·.1)=false:=by rfl)
  (hs:starEach [.Name tn p2] X.env=(false,eval (.Name tn p2) X.env)::starEach [] X.env:=by rfl) :
  bZ X (.Call (.Name "isinstance" p) [a,.Name tn p2] [] pos) (o1 (isT Ty) fa):=by
 intro pins s σ H Q I ⟨ρ,O,E,hq⟩
 refine wpAny_Call_Name_kw (fN I hg hm eU ?_ (by decide) (by decide))
 have hA:PA X [a,.Name tn p2] (fV (tP X fa) (fV (tC (.ty Ty)) tNil)):=a6 ha (a6 (pe_bltn (v:=.ty Ty) hgt hmt hv rfl hn hd) db hs) he
 obtain⟨ρ1,O1,E1,h1⟩:=aQ E hq
 refine PyProof.Rows.callWith_builtin1 (bK (hA pos pins s σ H (fun vs H'=> ∃v t,vs= [v,.ty Ty]/\Rep X.K O H' t v/\Post X H' (isT Ty t) (fun t H'=> ∀v,Rep X.K O H' t v->Q v H')) I ?_) fun us s1 ⟨vs,H1,I1,r1,v,t,e1,rt,q⟩=> ?_) he hpl
 ·refine⟨ρ1,O1,E1,Post.mono h1 fun ts H1 s1 q vs r=> ?_⟩
  obtain⟨t',r',s',E',q'⟩:=q vs r
  exact⟨vs,t',rfl,r',q'⟩
 ·subst e1
  obtain⟨u,w',rfl,ru,rw'⟩:=vals2 r1
  cases rw'
  unfold isT at q
  split at q
  ·rename_i n hn'
   split at q
   ·rename_i bb hb
    exact isinst_ok I1 ru (rt.tyOf hn') (isOne_kit _ hb) fun tk=>⟨.bl bb,H1,I1.tok _,rfl,q H1 (Same.refl H1) _ (Rep.bl_ _)⟩
   ·exact q.elim
  ·exact q.elim
def spP (K:PySem.W.Frag)(n:Nat)(g:List T->Rs T):Sp:=fun vs H Q _=> ∃ts O,Reps K O H ts vs/\(∀a,O a->Mtb H a)/\ts.length=n ∧
 match g ts with
 | .ok t=> ∀v H',Same H H'->Rep K O H' t v->Q v H'
 | _=>False
def RzC (P:Program)(w:World)(mg:Str->Option Value)(outer:List Env)(H:Hp)(s:Shared)(c:Str)(ev:Value)(s':Shared):Prop:=
 ∃e T C H',ev= .ref e/\mg c=some (.ref C)/\s'.os=s.os/\AllBare s'.gens/\Un (frs outer) [] H H' s.heap s'.heap/\HOk P w H' s'.heap/\Same H H'/\H' e=none/\s.heap.get? e=none/\Flt s'.heap C e (some T)/\H' T=none/\s.heap.get? T=none
def FnX (P:Program)(w:World)(K:PySem.W.Frag)(mg:Str->Option Value)(base:Heap)(k:Nat)(f:Addr)(fd:FuncData)(ps:List Str)(n:Nat)(g:List T->Rs T):Prop:=
 ∀(A:Around) (outer:List Env) (s:Shared) (H:Hp) (args:Args) (us:List Value) (vs:List V) (O:Ow) (ts:List T) (c:Str) (R:Result->Shared->Prop),Room k A->Env0 P w K mg base A outer s H->BindsTo s fd args (ps.zip us)->Vals vs us →
  Reps K O H ts vs->(∀a,O a->Mtb H a)->ts.length=n->g ts= .err c->(∀ev s',RzC P w mg outer H s c ev s'->R (.error ev) s')->codeAny (model P w) A (.call (.ref f) args) R s
structure FnB (P:Program)(w:World)(K:PySem.W.Frag)(mg:Str->Option Value)(base:Heap)(k:Nat)(f:Addr)(fd:FuncData)(ps:List Str)(n:Nat)(g:List T->Rs T):Prop where
 h:FnOk P w K mg base CX0 k f fd ps (spP K n g)
 x:FnX P w K mg base k f fd ps n g
theorem ok_there {P:Program}{w:World}{H:Hp}{h:Heap}{a:Addr}{o:HO}(x:ObjOk P w H h a o):∃ u,h.get? a=some u:=by
 cases o with
 | lst xs=>obtain⟨_,_,_,_,e⟩:=x;exact⟨_,e⟩
 | tup xs=>obtain⟨_,_,_,ob,e,_⟩:=x;exact⟨_,e⟩
 | dK kvs=>obtain⟨_,_,_,_,o,_,_,e,_⟩:=x;exact⟨_,e⟩
 | dT kvs=>obtain⟨_,_,_,_,o,_,_,e,_⟩:=x;exact⟨_,e⟩
 | set S n=>obtain⟨o,_,_,_,e,_⟩:=x;exact⟨_,e⟩
 | ins C dx fs=>obtain⟨_,_,_,e,_⟩:=x;exact⟨_,e⟩
 | own y=>obtain⟨_,e⟩:=x;exact⟨_,e⟩
 | xd fs=>obtain⟨_,⟨_,_,_,e,_⟩,_⟩:=x;exact⟨_,e⟩
 | rng lo hi=>obtain⟨_,_,_,e⟩:=x;exact⟨_,e⟩
 | frz ob u=>obtain⟨e,_⟩:=x;exact⟨_,e⟩
 | tbl ps=>exact⟨_,(show h.get? a=some _ from x)⟩
 | met f y=>exact⟨_,(show h.get? a=some _ from x)⟩
 | ext φ=>obtain⟨_,⟨_,e⟩,_⟩:=x;exact⟨_,e⟩
theorem no_track {X:Cx}{pins:List (Addr×Obj)}{σ:L2.St}{H:Hp}{s:Shared}(I:Inv X pins σ H s){e:Addr}(n:s.heap.get? e=none):H e=none:=by
 cases z:H e with
 | none=>rfl
 | some o=>
  obtain⟨o',ho'⟩:=ok_there (I.hok e o z)
  rw [n]at ho';cases ho'
theorem no_old {X:Cx}{pins:List (Addr×Obj)}{σ:L2.St}{H:Hp}{s:Shared}(I:Inv X pins σ H s)(hex:X.ex= []){e:Addr}(n:s.heap.get? e=none):X.s₀.heap.get? e=none:=by
 cases z:X.s₀.heap.get? e with
 | none=>rfl
 | some o=>
  obtain⟨o',ho'⟩:=I.base.there e o z (by rw [hex];simp)
  rw [n]at ho';cases ho'
theorem q_call {n k:Nat}{f:Addr}{fd:FuncData}{ps:List Str}{g:List T->Rs T}(F:FnB X.prog X.w X.K X.mg X.base k f fd ps n g)(hr:Room k X.A)(hm:X.mg x=some (.ref f))(hk:PySem.W.keepIn X.K (.ref f)=true)(hb:Binds X.K fd ps [])(hps:ps.length=n)
  (hl:∀ ρ ts,fs ρ= .ok ts->ts.length=n) (ha:PAt X (e::es) fs) (hg:Gl X x:=by rfl) (hdb:(x == ("__debug__" : Str))=false:=by decide) (he:starEach (e::es) X.env=(false,eval e X.env)::starEach es X.env:=by rfl) (hpl:(backTo pos (starEach es X.env)).any (·.1)=false:=by rfl) :
  bZ X (.Call (.Name x p) (e::es) [] pos) (cl g fs):=by
 intro pins s σ H Q I ⟨ρ,O,E,hq⟩
 have hq':Post X H (fs ρ >>= g) fun t H'=> ∀v,Rep X.K O H' t v->Q v H':=hq
 cases q:fs ρ with
 | bad=>rw [q]at hq';exact hq'.elim
 | err c=>
  rw [q]at hq'
  refine pe_call (E:=E0) F.h hr hg hm hk hb .nil pass0 ha hdb he hpl pins s σ H Q I ⟨ρ,O,E,?_⟩
  rw [q]
  exact hq'
 | ok ts=>
  rw [q]at hq'
  have hq2:Post X H (g ts) fun t H'=> ∀v,Rep X.K O H' t v->Q v H':=hq'
  cases q2:g ts with
  | bad=>rw [q2]at hq2;exact hq2.elim
  | ok t=>
   rw [q2]at hq2
   refine pe_call (E:=E0) F.h hr hg hm hk hb .nil pass0 ha hdb he hpl pins s σ H Q I ⟨ρ,O,E,?_⟩
   rw [q]
   intro H1 s1 vs rs
   rw [List.append_nil]
   refine⟨ts,O,rs,(E.same s1).mtb,hl ρ ts q,?_⟩
   rw [q2]
   exact fun v H' s2 r=>hq2 H' (s1.trans s2) v r
  | err c=>
   rw [q2]at hq2
   refine wpAny_Call_Name_kw (ld_glob I hg hm ?_ hdb)
   refine PySem.W.callWith_K (h₀:=X.base) I.ok.mod.kin hk (bK (ha pos pins s σ H (fun vs H'=>Same H H'/\Reps X.K O H' ts vs) I ⟨ρ,O,E,?_⟩) (fun us s1 ⟨vs,H1,I1,r,sm,rs⟩=>⟨I1.kIn,?_⟩)) he hpl
   ·rw [q];exact fun H' sm vs rs=>⟨sm,rs⟩
   ·have hlen:us.length=ps.length:=by rw [<-r.length,<-rs.length,hl ρ ts q,hps]
    have hb':=hb s1 us I1.kIn (by rw [List.append_nil];exact hlen)
    rw [List.append_nil]at hb'
    refine wpAny_call (codeAny_mono (F.x X.A X.stack s1 H1 ⟨us,[]⟩ us vs O ts c (fun r s'=>match r with | .error ev=>X.xe ev s' | _=>False) hr I1.env0 hb' r rs (E.same sm).mtb (hl ρ ts q) q2 fun ev s' w=> ?_) fun r s' hq=> ?_)
    ·obtain⟨ea,T,C,H',rfl,hmc,ho,hbare,hun,hok,sm2,hea,heo,fl,hT,hTo⟩:=w
     have I2:Inv X pins σ H' s':=I1.call' ho hun hok hbare (fun b z=>absurd z (by simp))
     exact hq2 pins _ _ ⟨ea,some T,C,σ,H',rfl,hmc,I2,fun b o q _=>sm2 b o (sm b o q),hea,fun hex=>no_old I1 hex heo,fl,(fun t zt=>by cases zt;exact⟨hT,fun hex=>no_old I1 hex hTo⟩),fun pp hpp=>⟨fun zz=>(by have:=(I1.pin pp hpp).1;rw [zz,heo]at this;cases this),fun zz=>(by cases zz;have:=(I1.pin pp hpp).1;rw [hTo]at this;cases this)⟩⟩
    ·cases r with
     | error ev=>exact hq
     | ok fl=>exact hq.elim
def tPG (X:Cx)(g:T->En->Rs En):TG:=fun v σ H Q=> ∃ρ O M t,EnvM X.K O M H ρ σ/\Rep X.K O H t v/\match g t ρ with
 | .ok ρ'=> ∀σ',EnvM X.K O M H ρ' σ'->Q σ' H
 | _=>False
abbrev PGt (X:Cx)(tg:Expr)(g:T->En->Rs En):Prop:=PG X tg (tPG X g)
def tPGs (X:Cx)(g:List T->En->Rs En):TGs:=fun vs σ H Q=> ∃ρ O M ts,EnvM X.K O M H ρ σ/\Reps X.K O H ts vs/\match g ts ρ with
 | .ok ρ'=> ∀σ',EnvM X.K O M H ρ' σ'->Q σ' H
 | _=>False
abbrev PGst (X:Cx)(tg:List Expr)(g:List T->En->Rs En):Prop:=PGs X tg (tPGs X g)
theorem PG.imp {X:Cx}{e:Expr}{t t':TG}(h:PG X e t)(w:∀ v σ H Q,t' v σ H Q->t v σ H Q):PG X e t':=fun pins s σ H v u Q I r q=>h pins s σ H v u Q I r (w v σ H Q q)
theorem PGs.imp {X:Cx}{e:List Expr}{t t':TGs}(h:PGs X e t)(w:∀ v σ H Q,t' v σ H Q->t v σ H Q):PGs X e t':=fun pins s σ H v u Q I r q=>h pins s σ H v u Q I r (w v σ H Q q)
def gN (i:Nat)(t:T)(ρ:En):Rs En:=if i<ρ.length then .ok (ρ.set i (.va t))else .bad
theorem EnvM.set {K:PySem.W.Frag}{O:Ow}{M:Mn}{H:Hp}{ρ:En}{σ:L2.St}{i:Nat}{t:T}{v:V}(E:EnvM K O M H ρ σ)(hi:i<ρ.length)(r:Rep K O H t v):EnvM K O M H (ρ.set i (.va t)) (σ.set i (some v)) where
 len:=by rw [List.length_set,List.length_set];exact E.len
 val:=fun j u e=>by
  by_cases hj:i=j
  ·subst hj
   rw [List.getElem?_set_self hi]at e
   cases e
   exact⟨v,List.getElem?_set_self (by rw [<-E.len];exact hi),r⟩
  ·rw [List.getElem?_set_ne hj]at e
   obtain⟨w,e1,e2⟩:=E.val j u e
   exact⟨w,by rw [List.getElem?_set_ne hj];exact e1,e2⟩
 own:=fun j o e=>by
  by_cases hj:i=j
  ·subst hj
   rw [List.getElem?_set_self hi]at e
   cases e
  ·rw [List.getElem?_set_ne hj]at e
   obtain⟨w,e1,e2⟩:=E.own j o e
   exact⟨w,by rw [List.getElem?_set_ne hj];exact e1,e2⟩
 sub:=E.sub
 dis:=E.dis
 trk:=E.trk
theorem qg_name (i:Nat)(hN:X.N.Nodup)(hi:X.N[i]? =some x:=by rfl)(hx:Loc X.env.scope x:=by first | exact Or.inl rfl | exact Or.inr rfl)(hf:X.fn x=true\/X.env.scope.names.lookup x=some .local:=by first | exact .inl rfl | exact .inr rfl | assumption):PGt X (.Name x pos) (gN i):=
 PG.imp (pg_name hN hi hx hf) fun v σ H Q hh_=>by
  obtain⟨ρ,O,M,t,E,r,h⟩:=hh_
  unfold gN at h
  split at h
  ·rename_i ρ' e
   split at e
   ·rename_i hl
    cases e
    exact h _ (E.set hl r)
   ·cases e
  ·exact h.elim
def gsN (ts:List T)(ρ:En):Rs En:=match ts with
 | [] => .ok ρ
 | _=> .bad
def eR (g:T->En->Rs En)(gs:List T->En->Rs En)(ts:List T)(ρ:En):Rs En:=match ts with
 | t::r=>do
  let ρ1 <-g t ρ
  gs r ρ1
 | [] => .bad
theorem qgs_nil:PGst X [] gsN:=PGs.imp pgs_nil fun vs σ H Q hh_=>by
 obtain⟨ρ,O,M,ts,E,r,h⟩:=hh_
 unfold gsN at h
 cases ts with
 | nil=>exact⟨Reps.nil_iff.mp r,h σ E⟩
 | cons _ _=>exact h.elim
theorem qgs_cons {g:T->En->Rs En}{gs:List T->En->Rs En}(h1:PGt X e g)(h2:PGst X es gs)
  (hs:(assignEach (e::es) X.env).map (·.2)=assign e X.env::(assignEach es X.env).map (·.2):=by rfl):PGst X (e::es) (eR g gs):=
 PGs.imp (pgs_cons h1 h2 hs) fun vs σ H Q hh_=>by
  obtain⟨ρ,O,M,ts,E,r,h⟩:=hh_
  cases ts with
  | nil=>exact h.elim
  | cons t ts=>
   obtain⟨v,ws,rfl,p,q⟩:=Reps.cons_iff.mp r
   refine⟨v,ws,rfl,ρ,O,M,t,E,p,?_⟩
   unfold eR at h
   cases e1:g t ρ with
   | bad=>simp [e1]at h
   | err c=>simp [e1]at h
   | ok ρ1=>
    intro σ1 E1
    refine⟨ρ1,O,M,ts,E1,q,?_⟩
    simp only [e1,aD]at h
    cases e2:gs ts ρ1 with
    | bad=>simp [e2]at h
    | err c=>simp [e2]at h
    | ok ρ2=>
     simp only [e2]at h
     exact fun σ2 E2=>h σ2 E2
def gT (n:Nat)(gs:List T->En->Rs En)(t:T)(ρ:En):Rs En:=match t with
 | .tup l=>if l.length=n then gs l ρ else .bad
 | _=> .bad
theorem qg_tup {k n:Nat}{gs:List T->En->Rs En}(hc:X.calm=true)(h:PGst X es gs)(hn:(assignEach es X.env).length=n:=by rfl)(hst:(assignEach es X.env).findIdx? (·.1)=none:=by rfl):PGt X (.Tuple es k pos) (gT n gs):=
 PG.imp (pg_tup hc h hn hst) fun v σ H Q hh_=>by
  obtain⟨ρ,O,M,t,E,r,h⟩:=hh_
  unfold gT at h
  cases t with
  | tup l=>
   obtain⟨a,vs,rfl,n',q,z⟩:=Rep.tup_iff.mp r
   by_cases hl:l.length=n
   ·simp only [if_pos hl]at h
    exact⟨a,vs,rfl,SqT.of q,by rw [<-z.length];exact hl,ρ,O,M,l,E,z,h⟩
   ·simp only [if_neg hl]at h
  | _=>exact h.elim
theorem SqL.nn {K:PySem.W.Frag}{H:Hp}{a:Addr}{vs:List V}(q:SqL K H a vs):¬ Nw K H a:=fun⟨h1,h2⟩=>by
 rcases q with(q | ⟨o,q⟩) | ⟨o,_,_,q,_⟩
 ·rw [h1]at q;cases q
 ·rw [h1]at q;cases q
 ·rw [h2]at q;cases q
mutual
theorem Rep.more {K:PySem.W.Frag}{O O':Ow}{H:Hp}(sub:∀ a,O' a->O a\/Nw K H a):∀ {t:T} {v:V},Rep K O H t v->Rep K O' H t v
 | .non,_,r=>by unfold Rep at r ⊢;exact r
 | .bl _,_,r=>by unfold Rep at r ⊢;exact r
 | .int _,_,r=>by unfold Rep at r ⊢;exact r
 | .str _,_,r=>by unfold Rep at r ⊢;exact r
 | .tup l,_,r=>by
  unfold Rep at r ⊢
  obtain⟨a,vs,e,n,q,z⟩:=r
  exact⟨a,vs,e,fun p=>(sub a p).elim n fun w=>(by rw [w.1]at q;cases q),q,Reps.more sub z⟩
 | .lst l,_,r=>by
  unfold Rep at r ⊢
  obtain⟨a,vs,e,n,q,z⟩:=r
  exact⟨a,vs,e,fun p=>(sub a p).elim n fun w=>(by rw [w.1]at q;cases q),q,Reps.more sub z⟩
 | .scr l,_,r=>by
  unfold Rep at r ⊢
  obtain⟨a,e,n,q⟩:=r
  exact⟨a,e,fun p=>(sub a p).elim n fun w=>Tr.SqL.nn q w,q⟩
 | .dct ks ts,_,r=>by
  unfold Rep at r ⊢
  obtain⟨a,kvs,e,n,q,k,z⟩:=r
  exact⟨a,kvs,e,fun p=>(sub a p).elim n fun w=>(by rw [w.1]at q;cases q),q,k,Reps.more sub z⟩
theorem Reps.more {K:PySem.W.Frag}{O O':Ow}{H:Hp}(sub:∀ a,O' a->O a\/Nw K H a):∀ {l:List T} {vs:List V},Reps K O H l vs->Reps K O' H l vs
 | [],_,r=>by unfold Reps at r ⊢;exact r
 | t::l,_,r=>by
  unfold Reps at r ⊢
  obtain⟨v,ws,e,p,q⟩:=r
  exact⟨v,ws,e,Rep.more sub p,Reps.more sub q⟩
end
theorem Rep.move {K:PySem.W.Frag}{O O' P:Ow}{H H':Hp}{t:T}{v:V}(hP:∀ a,P a->O a\/Nw K H a)(hO:∀ a,O' a->O a\/Nw K H a)(h:SameO P H H')(r:Rep K O H t v):Rep K O' H' t v:=
 Rep.less (O:=fun a=>O' a\/P a) (fun _ z=> .inl z) (Rep.keep h (fun _ z=> .inr z) (Rep.more (fun a z=>z.elim (hO a) (hP a)) r))
theorem Reps.move {K:PySem.W.Frag}{O O' P:Ow}{H H':Hp}{t:List T}{v:List V}(hP:∀ a,P a->O a\/Nw K H a)(hO:∀ a,O' a->O a\/Nw K H a)(h:SameO P H H')(r:Reps K O H t v):Reps K O' H' t v:=
 Reps.less (O:=fun a=>O' a\/P a) (fun _ z=> .inl z) (Reps.keep h (fun _ z=> .inr z) (Reps.more (fun a z=>z.elim (hO a) (hP a)) r))
def ItT (K:PySem.W.Frag)(O:Ow)(H:Hp)(ts:List T)(J:It):Prop:=∀ (P O':Ow),(∀a,P a->O a\/Nw K H a)->(∀a,O' a->O a\/Nw K H a)->∀ (i:Nat) (Hc:Hp),SameO P H Hc->(∀a,O' a->∃ o,Hc a=some o) →
 (ts.length<=i->J.stop i Hc)/\(∀t,ts[i]? =some t->J.go i Hc/\∀ x Hc',J.yld i Hc x Hc'->Same Hc Hc'/\Rep K O' Hc' t x)
def tPI (X:Cx)(f:En->Rs (List T)):TI:=fun σ H R=> ∃ρ O,EnvO X.K O H ρ σ/\Post X H (f ρ) fun ts H'=> ∀J,ItT X.K O H' ts J->R J H'
abbrev PIt (X:Cx)(tg iter:Expr)(f:En->Rs (List T)):Prop:=PI X tg iter (tPI X f)
theorem PI.imp {tg iter:Expr}{t t':TI}(h:PI X tg iter t)(w:∀ σ H R,t' σ H R->t σ H R):PI X tg iter t':=fun pins s σ H R I q=>h pins s σ H R I (w σ H R q)
def iL (f:En->Rs T)(ρ:En):Rs (List T):=do
 let x <-f ρ
 match x with
 | .lst l=> .ok l
 | _=> .bad
def iT (f:En->Rs T)(ρ:En):Rs (List T):=do
 let x <-f ρ
 match x with
 | .tup l=> .ok l
 | _=> .bad
theorem qi_list {tg:Expr}(ha:bZ X a fa):PIt X tg a (iL fa):=PI.imp (pi_list ha) fun σ H R hh_=>by
 obtain⟨ρ,O,E,h⟩:=hh_
 obtain⟨ρ1,O1,E1,h1⟩:=aQ E h
 refine⟨ρ1,O1,E1,Post.mono h1 fun ts H1 s1 q vs r=> ?_⟩
 obtain⟨t',r',s',E',q'⟩:=q vs r
 split at q'
 ·rename_i l
  obtain⟨a,ws,rfl,n,q,z⟩:=Rep.lst_iff.mp r'
  refine⟨a,rfl,⟨ws,SqL.of q⟩,q' H1 (Same.refl H1) _ fun P O' hP hO i Hc hs ht=> ?_⟩
  have hnP:¬ P a:=fun z=>(hP a z).elim n fun w=>by rw [w.1]at q;cases q
  refine⟨fun hi=>⟨ws,SqL.of (hs _ _ q hnP),by rw [<-z.length];exact hi⟩,fun t ht'=> ?_⟩
  obtain⟨v,e1,e2⟩:=z.get ht'
  refine⟨⟨ws,v,SqL.of (hs _ _ q hnP),e1⟩,fun x Hc' y=> ?_⟩
  obtain⟨e,y⟩:=y
  subst e
  have:=y ws (SqL.of (hs _ _ q hnP))
  rw [e1]at this;cases this
  exact⟨Same.refl _,e2.move hP hO hs⟩
 ·exact q'.elim
theorem qi_tup {tg:Expr}(ha:bZ X a fa):PIt X tg a (iT fa):=PI.imp (pi_tup ha) fun σ H R hh_=>by
 obtain⟨ρ,O,E,h⟩:=hh_
 obtain⟨ρ1,O1,E1,h1⟩:=aQ E h
 refine⟨ρ1,O1,E1,Post.mono h1 fun ts H1 s1 q vs r=> ?_⟩
 obtain⟨t',r',s',E',q'⟩:=q vs r
 split at q'
 ·rename_i l
  obtain⟨a,ws,rfl,n,q,z⟩:=Rep.tup_iff.mp r'
  refine⟨a,rfl,⟨ws,SqT.of q⟩,q' H1 (Same.refl H1) _ fun P O' hP hO i Hc hs ht=> ?_⟩
  have hnP:¬ P a:=fun z=>(hP a z).elim n fun w=>by rw [w.1]at q;cases q
  refine⟨fun hi=>⟨ws,SqT.of (hs _ _ q hnP),by rw [<-z.length];exact hi⟩,fun t ht'=> ?_⟩
  obtain⟨v,e1,e2⟩:=z.get ht'
  refine⟨⟨ws,v,SqT.of (hs _ _ q hnP),e1⟩,fun x Hc' y=> ?_⟩
  obtain⟨e,y⟩:=y
  subst e
  have:=y ws (SqT.of (hs _ _ q hnP))
  rw [e1]at this;cases this
  exact⟨Same.refl _,e2.move hP hO hs⟩
 ·exact q'.elim
def rng (lo hi:Int):List T:=(List.range (hi - lo).toNat).map fun(k:Nat)=>T.int (lo+(k:Int))
def i62 (i:Int):Bool:=decide (-(2 ^ 62)<=i)&&decide (i<2 ^ 62)
def iR (f:En->Rs (List T))(ρ:En):Rs (List T):=do
 let x <-f ρ
 match x with
 | [.int j] =>if i62 j then .ok (rng 0 j)else .bad
 | [.int i,.int j] =>if i62 i&&i62 j then .ok (rng i j)else .bad
 | _=> .bad
theorem i62_iff {i:Int}(h:i62 i=true) : -(2 ^ 62)<=i/\i<2 ^ 62:=by
 unfold i62 at h
 rw [Bool.and_eq_true]at h
 exact⟨of_decide_eq_true h.1,of_decide_eq_true h.2⟩
theorem itT_rng {K:PySem.W.Frag}{O:Ow}{H:Hp}(lo hi:Int):ItT K O H (rng lo hi) (Itr lo (hi - lo).toNat):=fun P O' hP hO i Hc hs ht=>by
 refine⟨fun h=> ?_,fun t h=> ?_⟩
 ·show(hi - lo).toNat<=i
  unfold rng at h
  rw [List.length_map,List.length_range]at h
  exact h
 ·unfold rng at h
  rw [List.getElem?_map]at h
  by_cases hi':i<(hi - lo).toNat
  ·rw [List.getElem?_range hi']at h
   cases h
   refine⟨hi',fun x Hc' y=> ?_⟩
   obtain⟨e,y⟩:=y
   subst e y
   exact⟨Same.refl _,Rep.int_ _⟩
  ·rw [List.getElem?_eq_none (by simpa using hi')]at h
   cases h
theorem qi_range1 {tg:Expr}(hm:X.mg "range" =none)(ha:PAt X [a] fs)(hg:Gl X "range":=by rfl)(hs:starEach [a] X.env= [(false,eval a X.env)]:=by rfl):PIt X tg (.Call (.Name "range" p) [a] [] pos) (iR fs):=by
 intro pins s σ H R I ⟨ρ,O,E,h⟩
 have h1:=fD E h
 refine Call_ (fN I hg hm boot_range (PyProof.Rows.callWith_type1 (bK (ha pos pins s σ H _ I h1) fun us s1 ⟨vs,H1,I1,r1,ts,rs,s',E',q1⟩=> ?_) hs rfl))
 split at q1
 ·obtain⟨v,rfl,r⟩:=rs.one
  split at q1
  ·rename_i j hj
   obtain⟨b1,b2⟩:=i62_iff hj
   cases Rep.int_iff.mp r
   cases r1 with
   | cons r rr=>
    cases rr
    obtain⟨t,rfl⟩:=r
    exact call_range_1 (range_it I1 (by omega) (by omega) b1 b2 (q1 H1 (Same.refl H1) _ (itT_rng 0 j)))
  ·exact q1.elim
 ·obtain⟨v,ws,rfl,p1,q⟩:=Reps.cons_iff.mp rs
  obtain⟨v2,rfl,r⟩:=q.one
  split at q1
  ·rename_i i j hj
   rw [Bool.and_eq_true]at hj
   obtain⟨b1,b2⟩:=i62_iff hj.1
   obtain⟨b3,b4⟩:=i62_iff hj.2
   cases Rep.int_iff.mp p1
   cases Rep.int_iff.mp r
   cases r1 with
   | cons r rr=>
    cases rr with
    | cons r' rr=>
     cases rr
     obtain⟨t,rfl⟩:=r
     obtain⟨t',rfl⟩:=r'
     exact call_range_2 (range_it I1 b1 b2 b3 b4 (q1 H1 (Same.refl H1) _ (itT_rng i j)))
  ·exact q1.elim
 ·exact q1.elim
theorem qi_range2 {tg:Expr}(hm:X.mg "range" =none)(ha:PAt X [a,b] fs)(hg:Gl X "range":=by rfl)(hs:starEach [a,b] X.env= [(false,eval a X.env),(false,eval b X.env)]:=by rfl)(hs2:starEach [b] X.env= [(false,eval b X.env)]:=by rfl) :
  PIt X tg (.Call (.Name "range" p) [a,b] [] pos) (iR fs):=by
 intro pins s σ H R I ⟨ρ,O,E,h⟩
 have h1:=fD E h
 refine Call_ (fN I hg hm boot_range (PyProof.Rows.callWith_type1 (bK (ha pos pins s σ H _ I h1) fun us s1 ⟨vs,H1,I1,r1,ts,rs,s',E',q1⟩=> ?_) (by rw [hs,hs2]) (by rw [hs2];rfl)))
 split at q1
 ·obtain⟨v,rfl,r⟩:=rs.one
  split at q1
  ·rename_i j hj
   obtain⟨b1,b2⟩:=i62_iff hj
   cases Rep.int_iff.mp r
   cases r1 with
   | cons r rr=>
    cases rr
    obtain⟨t,rfl⟩:=r
    exact call_range_1 (range_it I1 (by omega) (by omega) b1 b2 (q1 H1 (Same.refl H1) _ (itT_rng 0 j)))
  ·exact q1.elim
 ·obtain⟨v,ws,rfl,p1,q⟩:=Reps.cons_iff.mp rs
  obtain⟨v2,rfl,r⟩:=q.one
  split at q1
  ·rename_i i j hj
   rw [Bool.and_eq_true]at hj
   obtain⟨b1,b2⟩:=i62_iff hj.1
   obtain⟨b3,b4⟩:=i62_iff hj.2
   cases Rep.int_iff.mp p1
   cases Rep.int_iff.mp r
   cases r1 with
   | cons r rr=>
    cases rr with
    | cons r' rr=>
     cases rr
     obtain⟨t,rfl⟩:=r
     obtain⟨t',rfl⟩:=r'
     exact call_range_2 (range_it I1 b1 b2 b3 b4 (q1 H1 (Same.refl H1) _ (itT_rng i j)))
  ·exact q1.elim
 ·exact q1.elim
end
section
variable {X:Cx}{a b c e:Expr}{es:List Expr}{fa fb fc:En->Rs T}{fs:En->Rs (List T)}{pos p p2:Pos}{x:Str}
def bA (src:List (Option Nat))(ρ:En):En:=src.map fun o=>match o with
 | some i=>match ρ[i]? with
  | some (.va t)=> .va t
  | _=> .em
 | none=> .em
def de (tgt:T->En->Rs En)(fc:En->Rs Bool)(fe:En->Rs T):List T->En->Rs (List T)
 | [],_=> .ok []
 | t::r,ρ=>do
  let ρ1 <-tgt t ρ
  let k <-fc ρ1
  if k then do
   let y <-fe ρ1
   let ys <-de tgt fc fe r ρ1
   .ok (y::ys)
  else de tgt fc fe r ρ1
def fw (fi:En->Rs (List T))(src:List (Option Nat))(tgt:T->En->Rs En)(fc:En->Rs Bool)(fe:En->Rs T)(ρ:En):Rs T:=do
 let ts <-fi ρ
 if ts.length<=sizeLine then match de tgt fc fe ts (bA src ρ)with
  | .ok ys=> .ok (.lst ys)
  | _=> .bad
 else .bad
def bT (_:En):Rs Bool:=.ok true
def tP0 (K:PySem.W.Frag)(f:En->Rs T):TE:=fun σ H Q=> ∃ρ O,EnvO K O H ρ σ/\match f ρ with
 | .ok t=> ∀H',Same H H'->∀ v,Rep K O H' t v->Q v H'
 | _=>False
def tPT0 (K:PySem.W.Frag)(f:En->Rs Bool):TT:=fun σ H Q=> ∃ρ O,EnvO K O H ρ σ/\match f ρ with
 | .ok t=> ∀H',Same H H'->Q t H'
 | _=>False
theorem tP0.up {f:En->Rs T}{σ:L2.St}{H:Hp}{Q:VK}(h:tP0 X.K f σ H Q):tP X f σ H Q:=by
 obtain⟨ρ,O,E,h⟩:=h
 refine⟨ρ,O,E,?_⟩
 cases q:f ρ with
 | ok t=>rw [q]at h;exact h
 | err c=>rw [q]at h;exact h.elim
 | bad=>rw [q]at h;exact h.elim
theorem tPT0.up {f:En->Rs Bool}{σ:L2.St}{H:Hp}{Q:Bool->Hp->Prop}(h:tPT0 X.K f σ H Q):tPT X f σ H Q:=by
 obtain⟨ρ,O,E,h⟩:=h
 refine⟨ρ,O,E,?_⟩
 cases q:f ρ with
 | ok t=>rw [q]at h;exact h
 | err c=>rw [q]at h;exact h.elim
 | bad=>rw [q]at h;exact h.elim
theorem qif_nil:PIf X [] (tPT X bT):=fun pins s σ H Q I ⟨ρ,O,E,h⟩=>pif_nil pins s σ H Q I (h H (Same.refl H))
theorem qif_one {f:En->Rs Bool}(h:PTt X c f):PIf X [c] (tPT X f):=pif_one h
abbrev noM:Mn:=fun _ _=>False
theorem lcEnv_not {src:List (Option Nat)}{ρ:En}{j:Nat}{o:OT}(e:(bA src ρ)[j]? =some (.ow o)):False:=by
 unfold bA at e
 rw [List.getElem?_map]at e
 cases q:src[j]? with
 | none=>rw [q]at e;cases e
 | some o'=>
  rw [q]at e
  cases o' with
  | none=>cases e
  | some i=>
   have e':(match ρ[i]? with | some (Sl.va t)=>Sl.va t | _=>Sl.em)=Sl.ow o:=Option.some.inj e
   split at e' <;> cases e'
theorem lcEnv_ok {K:PySem.W.Frag}{O:Ow}{H:Hp}{ρ:En}{σ:L2.St}(E:EnvO K O H ρ σ)(src:List (Option Nat)):EnvM K O noM H (bA src ρ) (fm src σ) where
 len:=by unfold bA fm;rw [List.length_map,List.length_map]
 val:=fun j t e=>by
  unfold bA at e
  unfold fm
  rw [List.getElem?_map]at e ⊢
  cases q:src[j]? with
  | none=>rw [q]at e;cases e
  | some o=>
   rw [q]at e
   cases o with
   | none=>cases e
   | some i=>
    have e':(match ρ[i]? with | some (Sl.va t)=>Sl.va t | _=>Sl.em)=Sl.va t:=Option.some.inj e
    cases q2:ρ[i]? with
    | none=>rw [q2]at e';cases e'
    | some z=>
     rw [q2]at e'
     cases z with
     | em=>cases e'
     | ow l=>cases e'
     | va t'=>
      cases e'
      obtain⟨v,e1,e2⟩:=E.val i _ q2
      exact⟨v,by simp [e1],e2⟩
 own:=fun j o e=>(lcEnv_not e).elim
 sub:=fun _ _ z=>z.elim
 dis:=fun _ _ _ z=>z.elim
 trk:=E.mtb
theorem ORep.no {K:PySem.W.Frag}{O:Ow}{H:Hp}{o:OT}{v:V}(r:ORep K O no_ H o v):False:=by
 cases o with
 | lst l=>obtain⟨a,_,_,e,_⟩:=r;exact(e a).mpr rfl
 | dct ks ts=>obtain⟨a,_,_,e,_⟩:=r;exact(e a).mpr rfl
 | dd ks rows=>obtain⟨a,_,_,_,e,_⟩:=r;exact(e a).mpr (.inl rfl)
theorem EnvM.move {K:PySem.W.Frag}{O O' P:Ow}{H H':Hp}{ρ:En}{σ:L2.St}(E:EnvM K O noM H ρ σ)(hP:∀ a,P a->O a\/Nw K H a)(hO:∀ a,O' a->O a\/Nw K H a)(h:SameO P H H')(trk:∀ a,O' a->Mtb H' a):EnvM K O' noM H' ρ σ where
 len:=E.len
 val:=fun i t e=>let ⟨v,e1,e2⟩:=E.val i t e;⟨v,e1,e2.move hP hO h⟩
 own:=fun i o e=>let ⟨_,_,r⟩:=E.own i o e;r.no.elim
 sub:=fun _ _ z=>z.elim
 dis:=fun _ _ _ z=>z.elim
 trk:=trk
def lcV (fi:En->Rs (List T))(src:List (Option Nat))(tgt:T->En->Rs En)(fc:En->Rs Bool)(fe:En->Rs T)(ρ:En):Rs (List T):=fi ρ >>= fun ts=>if ts.length<=sizeLine then(match de tgt fc fe ts (bA src ρ)with | .ok ys=>Rs.ok ys | _=> .bad)else .bad
theorem lcF_bind {src:List (Option Nat)}{fi:En->Rs (List T)}{tgt:T->En->Rs En}{fc:En->Rs Bool}{fe:En->Rs T}{ρ:En}:fw fi src tgt fc fe ρ=lcV fi src tgt fc fe ρ >>= fun l=> .ok (.lst l):=by
 unfold fw lcV
 cases fi ρ with
 | bad=>rfl
 | err c=>rfl
 | ok ts=>
  rw [aD,aD]
  by_cases hz:ts.length<=sizeLine
  ·rw [if_pos hz,if_pos hz]
   cases de tgt fc fe ts (bA src ρ) <;> rfl
  ·rw [if_neg hz,if_neg hz];rfl
theorem lc_read0 {src:List (Option Nat)}{fi:En->Rs (List T)}{tgt:T->En->Rs En}{fc:En->Rs Bool}{fe:En->Rs T}{σ:L2.St}{H:Hp}{Q:VK}{ρ:En}{O:Ow}(E:EnvO X.K O H ρ σ)
  (hq1:Post X H (lcV fi src tgt fc fe ρ) fun all H1=> ∀D ys H',Nw X.K H1 D->Same H1 H'->H' D=some (.lst ys)->Reps X.K (fun a=>O a\/a=D) H' all ys->Q (.ref D) H'):tLc X.K (tPI X fi) src (tPG X tgt) (tPT0 X.K fc) (tP0 X.K fe) σ H Q:=by
 unfold lcV at hq1
 refine⟨ρ,O,E,Post.mono hq1.bind fun ts H1 s1 q1 J hJ D hD hK=> ?_⟩
 have E1:=E.same s1
 by_cases hz:ts.length<=sizeLine
 ·rw [if_pos hz]at q1
  cases hall:de tgt fc fe ts (bA src ρ)with
  | bad=>rw [hall]at q1;exact q1.elim
  | err c=>rw [hall]at q1;exact q1.elim
  | ok all=>
   rw [hall]at q1
   have q2:∀ D ys H',Nw X.K H1 D->Same H1 H'->H' D=some (.lst ys)->Reps X.K (fun a=>O a\/a=D) H' all ys->Q (.ref D) H':=q1 H1 (Same.refl H1)
   have nD:Nw X.K H1 D:=⟨hD,hK⟩
   let O':Ow:=fun a=>O a\/a=D
   have subO:∀ a,O' a->O a\/Nw X.K H1 a:=fun a z=>z.elim .inl fun w=> .inr (w▸nD)
   -- the walk's word
   refine⟨fun i m σ' ys H'=>m=ts.length - i/\i<=ts.length/\ys.length<=i/\H' D=some (.lst ys)/\SameO (fun a=>a=D) (upd H1 D (.lst [])) H' ∧
    ∃ρ' yts zs,EnvM X.K O' noM H' ρ' σ'/\Reps X.K O' H' yts ys/\de tgt fc fe (ts.drop i) ρ'= .ok zs/\yts++zs=all,⟨ts.length,?_⟩,?_⟩
   ·have sN:Same H1 (upd H1 D (.lst [])):=aS hD _
    refine⟨by omega,Nat.zero_le _,Nat.le_refl _,aG,fun b o e _=>e,bA src ρ,[],all,?_,Reps.nil_,by simpa using hall,rfl⟩
    have E2:EnvM X.K O noM H1 (bA src ρ) (fm src σ):=lcEnv_ok E1 src
    exact E2.move (P:=fun a=>a=D) (fun a z=> .inr (z▸nD)) subO (fun b o e _=>sN b o e) fun a z=>by
     rcases z with z | z
     ·exact(E1.mtb a z).same sN
     ·rw [z];exact .inl ⟨_,aG⟩
   ·rintro i m σ' ys H' ⟨rfl,hi',hyl,hDl,hsm,ρ',yts,zs,E',ry,hl,hyz⟩
    refine⟨hDl,?_⟩
    have sm1:SameO (fun a=>a=D) H1 H':=fun b o e nb=>hsm b o (by rw [aA nb];exact e) nb
    have it:=hJ (fun a=>a=D) O' (fun a z=> .inr (z▸nD)) subO i H' sm1 (fun a z=>(E'.trk a z).some)
    by_cases hlt:i<ts.length
    ·refine .inr ?_
     have hti:ts[i]? =some ts[i]:=by simp
     obtain⟨go,yl⟩:=it.2 ts[i] hti
     refine⟨go,by omega,fun xx Hc y=> ?_⟩
     obtain⟨sc,rx⟩:=yl xx Hc y
     have Ec:=E'.same sc
     rw [List.drop_eq_getElem_cons hlt]at hl
     unfold de at hl
     refine⟨ρ',O',noM,ts[i],Ec,rx,?_⟩
     cases e1:tgt ts[i] ρ' with
     | bad=>rw [e1]at hl;cases hl
     | err cc=>rw [e1]at hl;cases hl
     | ok ρ1=>
      rw [e1,aD]at hl
      intro σ1 Eg
      refine⟨ρ1,O',⟨noM,Eg⟩,?_⟩
      cases e2:fc ρ1 with
      | bad=>rw [e2]at hl;cases hl
      | err cc=>rw [e2]at hl;cases hl
      | ok k=>
       rw [e2,aD]at hl
       intro H3 s3
       have E3:=Eg.same s3
       have tot:Same H' H3:=sc.trans s3
       have D3:H3 D=some (.lst ys):=tot _ _ hDl
       have sm3:SameO (fun a=>a=D) (upd H1 D (.lst [])) H3:=fun b o e nb=>tot _ _ (hsm b o e nb)
       cases k with
       | false=>
        refine L2.iteF ?_
        have hl':de tgt fc fe (ts.drop (i+1)) ρ1= .ok zs:=by simpa using hl
        exact⟨ts.length - (i+1),by omega,rfl,hlt,by omega,D3,sm3,ρ1,yts,zs,E3,ry.same tot,hl',hyz⟩
       | true=>
        refine L2.iteT ?_
        have hl':(fe ρ1 >>= fun y=>de tgt fc fe (ts.drop (i+1)) ρ1 >>= fun ys=>Rs.ok (y::ys))= .ok zs:=by simpa using hl
        refine⟨ρ1,O',⟨noM,E3⟩,?_⟩
        cases e3:fe ρ1 with
        | bad=>rw [e3]at hl';cases hl'
        | err cc=>rw [e3]at hl';cases hl'
        | ok yt=>
         rw [e3,aD]at hl'
         cases e4:de tgt fc fe (ts.drop (i+1)) ρ1 with
         | bad=>rw [e4]at hl';cases hl'
         | err cc=>rw [e4]at hl';cases hl'
         | ok zs'=>
          rw [e4,aD]at hl'
          have hzs:yt::zs'=zs:=by injection hl'
          intro H4 s4 v rv
          have D4:H4 D=some (.lst ys):=s4 _ _ D3
          have E4:=E3.same s4
          have tot4:Same H' H4:=tot.trans s4
          have smD:SameO (fun a=>a=D) H4 (upd H4 D (.lst (ys++ [v]))):=fun b o e nb=>by rw [aA nb];exact e
          have inO:∀ a,a=D->O' a\/Nw X.K H4 a:=fun a z=> .inl (.inr z)
          refine⟨D4,ts.length - (i+1),by omega,rfl,hlt,?_,aG,fun b o e nb=>smD b o (s4 _ _ (sm3 b o e nb)) nb,ρ1,yts++ [yt],zs',?_,?_,e4,?_⟩
          ·rw [List.length_append,List.length_singleton];omega
          ·exact E4.move inO (fun a z=> .inl z) smD fun aa z=>by
            by_cases hz:aa=D
            ·rw [hz];exact .inl ⟨_,aG⟩
            ·unfold Mtb;rw [aA hz];exact E4.trk aa z
          ·have r1:Reps X.K O' H4 (yts++ [yt]) (ys++ [v]):=(ry.same tot4).append (Reps.cons_ rv Reps.nil_)
           exact r1.move inO (fun a z=> .inl z) smD
          ·rw [List.append_assoc,List.singleton_append,hzs];exact hyz
    ·refine .inl ⟨it.1 (by omega),?_⟩
     have hi2:i=ts.length:=by omega
     subst hi2
     rw [List.drop_length]at hl
     have hzs:zs= []:=by unfold de at hl;injection hl with hl;exact hl.symm
     subst hzs
     rw [List.append_nil]at hyz
     subst hyz
     have sF:Same H1 H':=fun b o e=>sm1 b o e fun z=>by rw [z,hD]at e;cases e
     exact q2 D ys H' nD sF hDl ry
 ·rw [if_neg hz]at q1
  exact q1.elim
theorem lc_read {src:List (Option Nat)}{fi:En->Rs (List T)}{tgt:T->En->Rs En}{fc:En->Rs Bool}{fe:En->Rs T}{σ:L2.St}{H:Hp}{Q:VK}(h0:tP X (fw fi src tgt fc fe) σ H Q):tLc X.K (tPI X fi) src (tPG X tgt) (tPT0 X.K fc) (tP0 X.K fe) σ H Q:=by
 obtain⟨ρ,O,E,hq⟩:=h0
 refine lc_read0 E ?_
 have e:fw fi src tgt fc fe ρ=lcV fi src tgt fc fe ρ >>= fun l=> .ok (.lst l):=lcF_bind
 rw [e]at hq
 cases q:lcV fi src tgt fc fe ρ with
 | bad=>rw [q]at hq;exact hq.elim
 | err c=>rw [q]at hq;exact hq
 | ok l=>
  rw [q,aD]at hq
  intro H1 s1 D ys H' nD sD eD rD
  exact hq H' (s1.trans sD) _ (Rep.lst_iff.mpr ⟨D,ys,rfl,fun z=>(E.same s1).fresh nD.1 z,eD,rD.less fun a z=> .inl z⟩)
theorem q_lc {elt tg iter:Expr}{ifs:List Expr}{scope:Scope}{N':List Str}{src:List (Option Nat)}{fi:En->Rs (List T)}{tgt:T->En->Rs En}{fc:En->Rs Bool}{fe:En->Rs T}
  (hc:X.calm=true) (S:LcScope X scope N' src) (hi:PIt X tg iter fi)
  (block:∀ cl C s₀ H₀ fp,PGt (bL X scope cl N' C s₀ H₀ fp) tg tgt/\PIf (bL X scope cl N' C s₀ H₀ fp) ifs (tPT (bL X scope cl N' C s₀ H₀ fp) fc)/\bZ (bL X scope cl N' C s₀ H₀ fp) elt fe)
  (hs:∀ x,foldedSetIterable iter X.env x=pure x:=by intro _;rfl) :
  bZ X (.ListComp elt [⟨tg,iter,ifs,0⟩] scope pos) (fw fi src tgt fc fe):=by
 have hPG:∀ cl C s₀ H₀ fp,PG (bL X scope cl N' C s₀ H₀ fp) tg (tPG X tgt):=fun cl C s₀ H₀ fp=>(block cl C s₀ H₀ fp).1
 have hPI:∀ cl C s₀ H₀ fp,PIf (bL X scope cl N' C s₀ H₀ fp) ifs (tPT0 X.K fc):=fun cl C s₀ H₀ fp pins s σ H Q I h=>(block cl C s₀ H₀ fp).2.1 pins s σ H Q I (tPT0.up (X:=bL X scope cl N' C s₀ H₀ fp) h)
 have hPE:∀ cl C s₀ H₀ fp,PE (bL X scope cl N' C s₀ H₀ fp) elt (tP0 X.K fe):=fun cl C s₀ H₀ fp pins s σ H Q I h=>(block cl C s₀ H₀ fp).2.2 pins s σ H Q I (tP0.up (X:=bL X scope cl N' C s₀ H₀ fp) h)
 exact PE.imp (pe_lc (g:=tPG X tgt) (tc:=tPT0 X.K fc) (te:=tP0 X.K fe) hc S hi (fun cl C s₀ H₀ fp=>⟨hPG cl C s₀ H₀ fp,hPI cl C s₀ H₀ fp,hPE cl C s₀ H₀ fp⟩) hs) fun σ H Q h=>lc_read h
inductive Fl where
 | nx (ρ:En) | rt (t:T) | bk (ρ:En) | ct (ρ:En)
def OO (B:Ow)(M:Mn):Ow:=fun a=>B a\/M.u a
structure Ev (K:PySem.W.Frag)(B:Ow)(M:Mn)(H:Hp)(ρ:En)(σ:L2.St):Prop where
 env:EnvM K (OO B M) M H ρ σ
 mine:∀ a,M.u a->¬ B a
theorem Ev.same {K:PySem.W.Frag}{B:Ow}{M:Mn}{H H':Hp}{ρ:En}{σ:L2.St}(h:Same H H')(e:Ev K B M H ρ σ):Ev K B M H' ρ σ:=⟨e.env.same h,e.mine⟩
theorem Ev.o {K:PySem.W.Frag}{B:Ow}{M:Mn}{H:Hp}{ρ:En}{σ:L2.St}(e:Ev K B M H ρ σ):EnvO K (OO B M) H ρ σ:=⟨M,e.env⟩
def PostF (X:Cx)(B P:Ow)(H:Hp)(r:Rs Fl)(D:Ends):Prop:=match r with
 | .ok (.nx ρ')=> ∀σ' H' M',SameO P H H'->Ev X.K B M' H' ρ' σ'->(∀a,M'.u a->P a\/Nw X.K H a)->D.nx σ' H'
 | .ok (.rt t)=> ∀v H',SameO P H H'->Rep X.K B H' t v->D.rt v H'
 | .ok (.bk ρ')=> ∀σ' H' M',SameO P H H'->Ev X.K B M' H' ρ' σ'->(∀a,M'.u a->P a\/Nw X.K H a)->D.bk σ' H'
 | .ok (.ct ρ')=> ∀σ' H' M',SameO P H H'->Ev X.K B M' H' ρ' σ'->(∀a,M'.u a->P a\/Nw X.K H a)->D.ct σ' H'
 | .err c=>XA X P H c
 | .bad=>False
def tPS (X:Cx)(F:En->Rs Fl):TS:=fun D σ H=> ∃ρ B M,Ev X.K B M H ρ σ/\PostF X B M.u H (F ρ) D
abbrev PSt (X:Cx)(s:Stmt)(F:En->Rs Fl):Prop:=PS X s (tPS X F)
abbrev PSst (X:Cx)(s:List Stmt)(F:En->Rs Fl):Prop:=PSs X s (tPS X F)
theorem PostF.later {B P P1:Ow}{H H1:Hp}{r:Rs Fl}{D:Ends}(h:PostF X B P H r D)(s:SameO P H H1)(sub:∀ a,P1 a->P a\/Nw X.K H a):PostF X B P1 H1 r D:=by
 have back:∀ a,P1 a\/Nw X.K H1 a->P a\/Nw X.K H a:=fun a z=>z.elim (sub a) (gA s)
 cases r with
 | bad=>exact h
 | err c=>exact XA.later h s sub
 | ok f=>
  cases f with
  | nx ρ'=>exact fun σ' H' M' s' E' o'=>h σ' H' M' (s.trans s' sub) E' fun a z=>back a (o' a z)
  | rt t=>exact fun v H' s' r=>h v H' (s.trans s' sub) r
  | bk ρ'=>exact fun σ' H' M' s' E' o'=>h σ' H' M' (s.trans s' sub) E' fun a z=>back a (o' a z)
  | ct ρ'=>exact fun σ' H' M' s' E' o'=>h σ' H' M' (s.trans s' sub) E' fun a z=>back a (o' a z)
theorem PostF.xa {B P:Ow}{H:Hp}{c:Str}{D:Ends}(h:PostF X B P H (.err c) D):XA X no_ H c:=XA.later (P:=P) h (fun _ _ e _=>e) fun _ z=>z.elim
def sN (ρ:En):Rs Fl:=.ok (.nx ρ)
def az (F G:En->Rs Fl)(ρ:En):Rs Fl:=do
 let f <-F ρ
 match f with
 | .nx ρ'=>G ρ'
 | f=> .ok f
theorem qs_nil:PSst X [] sN:=PSs.imp pss_nil fun D σ H ⟨ρ,B,M,E,h⟩=>h σ H M (fun _ _ e _=>e) E fun a z=> .inl z
theorem qs_cons {st:Stmt}{cq:List Stmt}{F G:En->Rs Fl}(h1:PSt X st F)(h2:PSst X cq G):PSst X (st::cq) (az F G):=PSs.imp (pss_cons h1 h2) fun D σ H hh_=>by
 obtain⟨ρ,B,M,E,h⟩:=hh_
 refine⟨ρ,B,M,E,?_⟩
 unfold az at h
 cases q:F ρ with
 | bad=>rw [q]at h;exact h.elim
 | err c=>rw [q]at h;exact h
 | ok f=>
  rw [q,aD]at h
  cases f with
  | nx ρ'=>exact fun σ' H' M' s' E' o'=>⟨ρ',B,M',E',h.later s' o'⟩
  | rt t=>exact h
  | bk ρ'=>exact h
  | ct ρ'=>exact h
theorem qs_one {st:Stmt}{F:En->Rs Fl}(h:PSt X st F):PSst X [st] F:=fg h
def aM (f:En->Rs T)(ρ:En):Rs Fl:=do
 let t <-f ρ
 .ok (.rt t)
theorem qs_ret (ha:bZ X a fa):PSt X (.Return (some a) pos) (aM fa):=PS.imp (ps_ret ha) fun D σ H hh_=>by
 obtain⟨ρ,B,M,E,h⟩:=hh_
 refine⟨ρ,OO B M,E.o,?_⟩
 unfold aM at h
 cases q:fa ρ with
 | bad=>rw [q]at h;exact h.elim
 | err c=>rw [q]at h;exact PostF.xa h
 | ok t=>
  rw [q,aD]at h
  exact fun H' s v r=>h v H' (SameO.of s) (r.less fun _ z=> .inl z)
def fo (f:En->Rs Bool)(F G:En->Rs Fl)(ρ:En):Rs Fl:=do
 let k <-f ρ
 if k then F ρ else G ρ
theorem qs_if {f:En->Rs Bool}{A B:List Stmt}{F G:En->Rs Fl}(hc:PTt X c f)(ha:PSst X A F)(hb:PSst X B G):PSt X (.If c A B pos) (fo f F G):=PS.imp (ps_if hc ha hb) fun D σ H hh_=>by
 obtain⟨ρ,B,M,E,h⟩:=hh_
 refine⟨ρ,OO B M,E.o,?_⟩
 unfold fo at h
 cases q:f ρ with
 | bad=>rw [q]at h;exact h.elim
 | err c=>rw [q]at h;exact PostF.xa h
 | ok k=>
  rw [q,aD]at h
  intro H' s
  have E':Ev X.K B M H' ρ σ:=E.same s
  cases k with
  | true=>refine L2.iteT ?_;exact⟨ρ,B,M,E',PostF.later (by simpa using h) (SameO.of s) fun a z=> .inl z⟩
  | false=>refine L2.iteF ?_;exact⟨ρ,B,M,E',PostF.later (by simpa using h) (SameO.of s) fun a z=> .inl z⟩
def b8 (f:En->Rs T)(g:T->En->Rs En)(ρ:En):Rs Fl:=do
 let t <-f ρ
 match g t ρ with
 | .ok ρ'=> .ok (.nx ρ')
 | _=> .bad
theorem sAs_ok {B:Ow}{M:Mn}{ρ:En}{σ:L2.St}{H:Hp}{D:Ends}{g:T->En->Rs En}{f:En->Rs T}(E:Ev X.K B M H ρ σ)(h:PostF X B M.u H (b8 f g ρ) D):tAsg (tP X f) (tPG X g) D σ H:=by
 refine⟨ρ,OO B M,E.o,?_⟩
 unfold b8 at h
 cases q:f ρ with
 | bad=>rw [q]at h;exact h.elim
 | err c=>rw [q]at h;exact PostF.xa h
 | ok t=>
  rw [q,aD]at h
  intro H' s v r
  refine⟨ρ,OO B M,M,t,E.env.same s,r,?_⟩
  cases q2:g t ρ with
  | bad=>rw [q2]at h;exact h.elim
  | err c=>rw [q2]at h;exact h.elim
  | ok ρ'=>
   rw [q2]at h
   exact fun σ' E'=>h σ' H' M (SameO.of s) ⟨E',E.mine⟩ fun a z=> .inl z
theorem tP_mono {f:En->Rs T}{σ:L2.St}{H:Hp}{Q Q':VK}(h:tP X f σ H Q)(w:∀ v H',Q v H'->Q' v H'):tP X f σ H Q':=by
 obtain⟨ρ,O,E,q⟩:=h
 exact⟨ρ,O,E,Post.mono q fun t H' _ z v r=>w v H' (z v r)⟩
theorem qs_lc {elt tg iter:Expr}{ifs:List Expr}{scope:Scope}{spos py:Pos}{N':List Str}{src:List (Option Nat)}{fi:En->Rs (List T)}{tgt:T->En->Rs En}{fc:En->Rs Bool}{fe:En->Rs T}(i:Nat){y:Str}
  (hc:X.calm=true) (S:LcScope X scope N' src) (hi:PIt X tg iter fi)
  (block:∀ cl C s₀ H₀ fp,PGt (bL X scope cl N' C s₀ H₀ fp) tg tgt/\PIf (bL X scope cl N' C s₀ H₀ fp) ifs (tPT (bL X scope cl N' C s₀ H₀ fp) fc)/\bZ (bL X scope cl N' C s₀ H₀ fp) elt fe)
  (hN:X.N.Nodup) (hiy:X.N[i]? =some y:=by rfl) (hy:Loc X.env.scope y:=by first | exact Or.inl rfl | exact Or.inr rfl) (hsw:swapsWith (.ListComp elt [⟨tg,iter,ifs,0⟩] scope pos) (some (.Name y py)) spos.line X.env=pure true:=by rfl)
  (hf:X.fn y=true\/X.env.scope.names.lookup y=some .local:=by first | exact .inl rfl | exact .inr rfl | assumption) (hs:∀ x,foldedSetIterable iter X.env x=pure x:=by intro _;rfl) :
  PSt X (.Assign [.Name y py] (.ListComp elt [⟨tg,iter,ifs,0⟩] scope pos) spos) (b8 (fw fi src tgt fc fe) (gN i)):=by
 have hPG:∀ cl C s₀ H₀ fp,PG (bL X scope cl N' C s₀ H₀ fp) tg (tPG X tgt):=fun cl C s₀ H₀ fp=>(block cl C s₀ H₀ fp).1
 have hPI:∀ cl C s₀ H₀ fp,PIf (bL X scope cl N' C s₀ H₀ fp) ifs (tPT0 X.K fc):=fun cl C s₀ H₀ fp pins s σ H Q I h=>(block cl C s₀ H₀ fp).2.1 pins s σ H Q I (tPT0.up (X:=bL X scope cl N' C s₀ H₀ fp) h)
 have hPE:∀ cl C s₀ H₀ fp,PE (bL X scope cl N' C s₀ H₀ fp) elt (tP0 X.K fe):=fun cl C s₀ H₀ fp pins s σ H Q I h=>(block cl C s₀ H₀ fp).2.2 pins s σ H Q I (tP0.up (X:=bL X scope cl N' C s₀ H₀ fp) h)
 refine PS.imp (ps_lc (g:=tPG X tgt) (tc:=tPT0 X.K fc) (te:=tP0 X.K fe) (i:=i) hc S hi (fun cl C s₀ H₀ fp=>⟨hPG cl C s₀ H₀ fp,hPI cl C s₀ H₀ fp,hPE cl C s₀ H₀ fp⟩) hN hiy hy hsw hf hs) fun D σ H ⟨ρ,B,M,E,h⟩=>lc_read (tP_mono (sAs_ok E h) fun v H' z=> ?_)
 obtain⟨ρ',O,M',t,E',r,q⟩:=z
 unfold gN at q
 split at q
 ·rename_i ρ2 e
  split at e
  ·rename_i hl
   cases e
   exact q _ (E'.set hl r)
  ·cases e
 ·exact q.elim
theorem qs_asg {tg:Expr}{g:T->En->Rs En}(ha:bZ X a fa)(hg:PGt X tg g)(hs:swapsWithSole [tg] a pos.line X.env=pure false:=by rfl)(hw:swappedStores [tg] a X.env=pure none:=by rfl)
  (h1:(assignEach [tg] X.env).map (·.2)= [assign tg X.env]:=by rfl):PSt X (.Assign [tg] a pos) (b8 fa g):=PS.imp (ps_asg ha hg hs hw h1) fun D σ H ⟨ρ,B,M,E,h⟩=>sAs_ok E h
def sEx (f:En->Rs T)(ρ:En):Rs Fl:=do
 let _ <-f ρ
 .ok (.nx ρ)
theorem qs_expr (ha:bZ X a fa)(hs:swapsWith a none pos.line X.env=pure false:=by rfl):PSt X (.Expr a pos) (sEx fa):=PS.imp (ps_expr ha hs) fun D σ H hh_=>by
 obtain⟨ρ,B,M,E,h⟩:=hh_
 refine⟨ρ,OO B M,E.o,?_⟩
 unfold sEx at h
 cases q:fa ρ with
 | bad=>rw [q]at h;exact h.elim
 | err c=>rw [q]at h;exact PostF.xa h
 | ok t=>
  rw [q,aD]at h
  exact fun H' s v r=>h σ H' M (SameO.of s) (E.same s) fun a z=> .inl z
def aP (g:T->En->Rs En)(F:En->Rs Fl):List T->En->Rs Fl
 | [],ρ=> .ok (.nx ρ)
 | t::r,ρ=>do
  let ρ1 <-g t ρ
  let f <-F ρ1
  match f with
  | .nx ρ2=>aP g F r ρ2
  | .ct ρ2=>aP g F r ρ2
  | .bk ρ2=> .ok (.nx ρ2)
  | .rt t=> .ok (.rt t)
def dy (fi:En->Rs (List T))(g:T->En->Rs En)(F:En->Rs Fl)(ρ:En):Rs Fl:=do
 let ts <-fi ρ
 match aP g F ts ρ with
 | .ok f=> .ok f
 | _=> .bad
theorem nox_up {α:Type}{t:Sem α}{Q:α->Shared->Prop}{s:Shared}{E:Value->Shared->Prop}{P:Program}{w:World}{A:Around}(h:wpAny (model P w) A t Q (fun _ _=>False) s):wpAny (model P w) A t Q E s:=wpAny_mono h (fun _ _ q=>q) fun _ _ z=>z.elim
theorem ps_forN {tg iter:Expr}{body:List Stmt}{wi:TI}{g:TG}{tb:TS}{pos:Pos}(hc:X.calm=true)(hi:PI X tg iter wi)(hg:PG X.nox tg g)(hb:PSs X.nox body tb)
  (hs:∀ x,foldedSetIterable iter X.env x=pure x:=by intro _;rfl):PS X (.For tg iter body [] pos) (tFor wi g tb):=by
 intro pins s σ H D I h
 refine wpAny_For (bK (hi pins s σ H _ I h) fun v s1 h1=>bK h1 fun itv s2 h2=> ?_) hs
 obtain⟨it,fp,tn,J,H2,e,I2,T,st2,f2,W,⟨m0,w0⟩,turn⟩:=h2
 subst e
 have stat:∀ {H':Hp},(∀b∈fp,H' b=none)->∀ b∈fp,FpOk X pins H' b:=fun hn b hb=>⟨hn b hb,(f2 b hb).2⟩
 refine codeAny_forLoop_any (fun n s'=> ∃i σ' H',Inv X pins σ' H' s'/\tn i s'.heap/\(∀b∈fp,H' b=none)/\W i n σ' H') ?_ m0 ⟨0,σ,H2,I2,st2,fun b hb=>(f2 b hb).1,w0⟩
 rintro n s3 ⟨i,σ3,H3,I3,st3,fr3,w3⟩
 rcases turn i n σ3 H3 w3 with⟨stop,qn⟩ | ⟨go,N,hN,step⟩
 ·refine nox_up (bK (T.done X.nox rfl rfl rfl hc i pins s3 σ3 H3 _ (I3.wish _) (stat fr3) st3 stop) fun r s4 ⟨hr,I4⟩=> ?_)
  subst hr
  exact wpAny_execs_nil ⟨σ3,H3,I4.wish _,qn⟩
 ·refine nox_up (bK (T.item X.nox rfl rfl rfl hc i pins s3 σ3 H3 _ (I3.wish _) (stat fr3) st3 go) fun r s4 ⟨u,hr,h4⟩=> ?_)
  subst hr
  refine nox_up (bK h4 fun _ s5 hh_=> ?_)
  obtain⟨x,H5,I5,r5,y5,st5,fr5⟩:=hh_
  have I5':=Inv.pinned (X:=X.nox) I5 (stat fr5) (T.obj _ _ st5)
  refine nox_up (bK (hg _ s5 σ3 H5 x u _ I5' r5 (step x H5 y5)) fun _ s6 hh_=> ?_)
  obtain⟨σ6,H6,I6,q6⟩:=hh_
  refine nox_up (bK (hb _ s6 σ6 H6 _ I6 q6) fun f s7 q7=> ?_)
  have again:∀ {σ7:L2.St} {H7:Hp},Inv X.nox (pins++pinsAt fp s5.heap) σ7 H7 s7->N σ7 H7->∃ m,m<n/\∃ i σ' H',Inv X pins σ' H' s7/\tn i s7.heap/\(∀b∈fp,H' b=none)/\W i m σ' H':=fun {σ7 H7} I7 n7=>by
   obtain⟨m',hm,w7⟩:=hN σ7 H7 n7
   refine⟨m',hm,i+1,σ7,H7,(Inv.unpinned (X:=X.nox) I7).wish _,T.keep _ _ _ st5 fun b hb o e=>(I7.pin (b,o) (List.mem_append_right _ (List.mem_append_right _ (gB hb e)))).1,fun b hb=> ?_,w7⟩
   obtain⟨o,e,d⟩:=T.obj _ _ st5 b hb
   exact(I7.pin (b,o) (List.mem_append_right _ (List.mem_append_right _ (gB hb e)))).2.1
  cases f with
  | next=>obtain⟨σ7,H7,I7,n7⟩:=q7;exact again I7 n7
  | cont=>obtain⟨σ7,H7,I7,n7⟩:=q7;exact again I7 n7
  | brk=>obtain⟨σ7,H7,I7,q7⟩:=q7;exact⟨σ7,H7,(Inv.unpinned (X:=X.nox) I7).wish _,q7⟩
  | ret v=>obtain⟨x7,σ7,H7,I7,r7,q7⟩:=q7;exact⟨x7,σ7,H7,(Inv.unpinned (X:=X.nox) I7).wish _,r7,q7⟩
theorem qs_for {tg iter:Expr}{body:List Stmt}{fi:En->Rs (List T)}{g:T->En->Rs En}{F:En->Rs Fl}(hc:X.calm=true)(hi:PIt X tg iter fi)(hg:PGt X.nox tg g)(hb:PSst X.nox body F)
  (hs:∀ x,foldedSetIterable iter X.env x=pure x:=by intro _;rfl):PSt X (.For tg iter body [] pos) (dy fi g F):=PS.imp (ps_forN hc hi hg hb hs) fun D σ H hh_=>by
 obtain⟨ρ,B,M,E,h⟩:=hh_
 refine⟨ρ,OO B M,E.o,?_⟩
 unfold dy at h
 cases q:fi ρ with
 | bad=>rw [q]at h;exact h.elim
 | err c=>rw [q]at h;exact PostF.xa h
 | ok ts=>
  rw [q,aD]at h
  cases qq:aP g F ts ρ with
  | bad=>rw [qq]at h;exact h.elim
  | err c=>rw [qq]at h;exact h.elim
  | ok fin=>
  rw [qq]at h
  intro H1 s1 J hJ
  have E1:Ev X.K B M H1 ρ σ:=E.same s1
  have h1:PostF X B M.u H1 (.ok fin) D:=PostF.later h (SameO.of s1) fun a z=> .inl z
  refine⟨fun i m σ' H'=>m=ts.length - i/\i<=ts.length/\SameO M.u H1 H'/\∃ ρ' M',Ev X.K B M' H' ρ' σ'/\(∀a,M'.u a->M.u a\/Nw X.K H1 a)/\aP g F (ts.drop i) ρ'= .ok fin,
   ⟨ts.length,by omega,Nat.zero_le _,fun _ _ e _=>e,ρ,M,E1,fun a z=> .inl z,by simpa using qq⟩,?_⟩
  rintro i m σ' H' ⟨rfl,hi',sm,ρ',M',E',ow,hl⟩
  have it:=hJ M.u (OO B M') (fun a z=> .inl (.inr z)) (fun a z=>z.elim (fun w=> .inl (.inl w)) fun w=>(ow a w).elim (fun y=> .inl (.inr y)) .inr) i H' sm (fun a z=>(E'.env.trk a z).some)
  by_cases hlt:i<ts.length
  ·have hti:ts[i]? =some ts[i]:=by simp
   obtain⟨go,yl⟩:=it.2 ts[i] hti
   rw [List.drop_eq_getElem_cons hlt]at hl
   unfold aP at hl
   refine .inr ⟨go,fun σ2 H2=> ∃m',m'<ts.length - i/\(m'=ts.length - (i+1)/\i+1<=ts.length/\SameO M.u H1 H2/\∃ ρ2 M2,Ev X.K B M2 H2 ρ2 σ2/\(∀a,M2.u a->M.u a\/Nw X.K H1 a)/\aP g F (ts.drop (i+1)) ρ2= .ok fin),fun σ2 H2 z=>z,fun x Hc y=> ?_⟩
   obtain⟨sc,rx⟩:=yl x Hc y
   refine⟨ρ',OO B M',M',ts[i],E'.env.same sc,rx,?_⟩
   cases e1:g ts[i] ρ' with
   | bad=>rw [e1]at hl;cases hl
   | err cc=>rw [e1]at hl;cases hl
   | ok ρ1=>
    rw [e1,aD]at hl
    intro σ1 Eg
    have E2:Ev X.K B M' Hc ρ1 σ1:=⟨Eg,E'.mine⟩
    refine⟨ρ1,B,M',E2,?_⟩
    have smc:SameO M.u H1 Hc:=fun b o e n=>sc _ _ (sm b o e n)
    have onward:∀ {σ3:L2.St} {H3:Hp} {ρ3:En} {M3:Mn},SameO M'.u Hc H3->Ev X.K B M3 H3 ρ3 σ3->(∀a,M3.u a->M'.u a\/Nw X.K Hc a)->aP g F (ts.drop (i+1)) ρ3= .ok fin →
      ∃m',m'<ts.length - i/\(m'=ts.length - (i+1)/\i+1<=ts.length/\SameO M.u H1 H3/\∃ ρ2 M2,Ev X.K B M2 H3 ρ2 σ3/\(∀a,M2.u a->M.u a\/Nw X.K H1 a)/\aP g F (ts.drop (i+1)) ρ2= .ok fin):=
     fun {σ3 H3 ρ3 M3} s3 E3 o3 p3=>⟨_,by omega,rfl,hlt,smc.trans s3 ow,ρ3,M3,E3,fun a z=>(o3 a z).elim (ow a) (gA smc),p3⟩
    cases e2:F ρ1 with
    | bad=>rw [e2]at hl;cases hl
    | err cc=>rw [e2]at hl;cases hl
    | ok f=>
     rw [e2,aD]at hl
     cases f with
     | nx ρ2=>exact fun σ3 H3 M3 s3 E3 o3=>onward s3 E3 o3 hl
     | ct ρ2=>exact fun σ3 H3 M3 s3 E3 o3=>onward s3 E3 o3 hl
     | bk ρ2=>
      cases hl
      exact fun σ3 H3 M3 s3 E3 o3=>h1 σ3 H3 M3 (smc.trans s3 ow) E3 fun a z=>(o3 a z).elim (ow a) (gA smc)
     | rt t=>
      cases hl
      exact fun v H3 s3 r=>h1 v H3 (smc.trans s3 ow) r
  ·refine .inl ⟨it.1 (by omega),?_⟩
   have hi2:i=ts.length:=by omega
   subst hi2
   rw [List.drop_length]at hl
   cases hl
   exact h1 σ' H' M' sm E' ow
def bw (c:En->Rs Bool)(F:En->Rs Fl):Nat->En->Rs Fl
 | 0,_=> .bad
 | n+1,ρ=>match c ρ with
  | .ok false=> .ok (.nx ρ)
  | .ok true=>match F ρ with
   | .ok (.nx ρ')=>bw c F n ρ'
   | .ok (.ct ρ')=>bw c F n ρ'
   | .ok (.bk ρ')=> .ok (.nx ρ')
   | .ok (.rt t)=> .ok (.rt t)
   | _=> .bad
  | _=> .bad
theorem qs_while {c:Expr}{body:List Stmt}{fc:En->Rs Bool}{F:En->Rs Fl}(n:Nat)(hc:PTt X.nox c fc)(hb:PSst X.nox body F):PSt X (.While c body [] pos) (bw fc F n):=by
 have base:PS X.nox (.While c body [] pos) (tWhile (tPT X.nox fc) (tPS X.nox F)):=ps_while PassesOwn.never hc hb
 intro pins s σ H D I ⟨ρ,B,M,E,h⟩
 cases qq:bw fc F n ρ with
 | bad=>rw [qq]at h;exact h.elim
 | err c=>
  exfalso
  have:∀ n ρ,bw fc F n ρ≠ .err c:=by
   intro n
   induction n with
   | zero=>intro ρ z;cases z
   | succ n ih=>
    intro ρ z
    unfold bw at z
    split at z
    ·cases z
    ·split at z <;> first | exact ih _ z | cases z
    ·cases z
  exact this n ρ qq
 | ok fin=>
  rw [qq]at h
  have goal:tWhile (tPT X.nox fc) (tPS X.nox F) D σ H:=by
   refine⟨fun m σ' H'=>SameO M.u H H'/\∃ ρ' M',Ev X.K B M' H' ρ' σ'/\(∀a,M'.u a->M.u a\/Nw X.K H a)/\bw fc F m ρ'= .ok fin,⟨n,fun _ _ e _=>e,ρ,M,E,fun a z=> .inl z,qq⟩,?_⟩
   rintro m σ' H' ⟨sm,ρ',M',E',ow,hl⟩
   cases m with
   | zero=>cases hl
   | succ m=>
    refine⟨ρ',OO B M',E'.o,?_⟩
    unfold bw at hl
    cases e1:fc ρ' with
    | bad=>rw [e1]at hl;cases hl
    | err cc=>rw [e1]at hl;cases hl
    | ok k=>
     rw [e1]at hl
     intro H2 s2
     have E2:Ev X.K B M' H2 ρ' σ':=E'.same s2
     have sm2:SameO M.u H H2:=fun b o e n=>s2 _ _ (sm b o e n)
     cases k with
     | false=>
      cases hl
      refine L2.iteF ?_
      exact h σ' H2 M' sm2 E2 ow
     | true=>
      refine L2.iteT ?_
      refine⟨fun σ3 H3=>SameO M.u H H3/\∃ ρ3 M3,Ev X.K B M3 H3 ρ3 σ3/\(∀a,M3.u a->M.u a\/Nw X.K H a)/\bw fc F m ρ3= .ok fin,fun σ3 H3 z=>⟨m,Nat.lt_succ_self m,z⟩,ρ',B,M',E2,?_⟩
      have hl':(match F ρ' with | .ok (.nx ρ')=>bw fc F m ρ' | .ok (.ct ρ')=>bw fc F m ρ' | .ok (.bk ρ')=> .ok (.nx ρ') | .ok (.rt t)=> .ok (.rt t) | _=> .bad)= .ok fin:=hl
      cases e2:F ρ' with
      | bad=>rw [e2]at hl';cases hl'
      | err cc=>rw [e2]at hl';cases hl'
      | ok f=>
       rw [e2]at hl'
       cases f with
       | nx ρ2=>exact fun σ3 H3 M3 s3 E3 o3=>⟨sm2.trans s3 ow,ρ2,M3,E3,fun a z=>(o3 a z).elim (ow a) (gA sm2),hl'⟩
       | ct ρ2=>exact fun σ3 H3 M3 s3 E3 o3=>⟨sm2.trans s3 ow,ρ2,M3,E3,fun a z=>(o3 a z).elim (ow a) (gA sm2),hl'⟩
       | bk ρ2=>
        cases hl'
        exact fun σ3 H3 M3 s3 E3 o3=>h σ3 H3 M3 (sm2.trans s3 ow) E3 fun a z=>(o3 a z).elim (ow a) (gA sm2)
       | rt t=>
        cases hl'
        exact fun v H3 s3 r=>h v H3 (sm2.trans s3 ow) r
  refine nox_up (bK (base pins s σ H D (I.wish _) goal) fun f s' q=> ?_)
  cases f with
  | next=>obtain⟨σ7,H7,I7,n7⟩:=q;exact⟨σ7,H7,I7.wish _,n7⟩
  | cont=>obtain⟨σ7,H7,I7,n7⟩:=q;exact⟨σ7,H7,I7.wish _,n7⟩
  | brk=>obtain⟨σ7,H7,I7,n7⟩:=q;exact⟨σ7,H7,I7.wish _,n7⟩
  | ret v=>obtain⟨x7,σ7,H7,I7,r7,q7⟩:=q;exact⟨x7,σ7,H7,I7.wish _,r7,q7⟩
def sCt (ρ:En):Rs Fl:=.ok (.ct ρ)
end
def c9 (F:En->Rs Fl)(ρ:En):Rs T:=do
 let f <-F ρ
 match f with
 | .nx _=> .ok .non
 | .rt t=> .ok t
 | _=> .bad
def bc (n:Nat)(ts:List T):En:=ts.map Sl.va++List.replicate (n - ts.length) Sl.em
theorem startT_no {n:Nat}{ts:List T}{i:Nat}{o:OT}(e:(bc n ts)[i]? =some (.ow o)):False:=by
 unfold bc at e
 by_cases hi:i<ts.length
 ·rw [List.getElem?_append_left (by simpa using hi),List.getElem?_map,List.getElem?_eq_getElem hi]at e
  cases e
 ·rw [List.getElem?_append_right (by simpa using hi),List.getElem?_replicate]at e
  split at e <;> cases e
theorem start_env {K:PySem.W.Frag}{O:Ow}{H:Hp}{N:List Str}{ts:List T}{vs:List V}(r:Reps K O H ts vs)(hl:ts.length<=N.length)(trk:∀ a,O a->Mtb H a):Ev K O noM H (bc N.length ts) (start N vs):=by
 have hlen:=r.length
 have sub:∀ a,OO O noM a->O a:=fun a z=>z.elim id fun⟨_,w⟩=>w.elim
 refine⟨⟨by unfold bc L2.start;simp;omega,fun i t e=> ?_,fun i o e=>(startT_no e).elim,fun _ _ z=>z.elim,fun _ _ _ z=>z.elim,fun a z=>trk a (sub a z)⟩,fun a ⟨_,z⟩=>z.elim⟩
 unfold bc at e
 unfold L2.start
 by_cases hi:i<ts.length
 ·rw [List.getElem?_append_left (by simpa using hi),List.getElem?_map,List.getElem?_eq_getElem hi]at e
  have e':ts[i] =t:=by injection e with e;injection e
  obtain⟨v,e1,e2⟩:=r.get (i:=i) (t:=t) (by rw [<-e'];simp)
  refine⟨v,?_,e2.less sub⟩
  rw [List.getElem?_append_left (by simp;omega),List.getElem?_map,e1];rfl
 ·rw [List.getElem?_append_right (by simpa using hi),List.getElem?_replicate]at e
  split at e <;> cases e
section
variable {P:Program}{w:World}{K:PySem.W.Frag}{mg:Str->Option Value}{base:Heap}
theorem fn_ok {x qual:Str}{st:Stmt}{f:Addr}{fd:FuncData}{N ps:List Str}{k n:Nat}{g:List T->Rs T}(Fn:L2.Fun K x qual st f fd)(S:aB N ps (aj st))(hn:ps.length=n)
  (hbody:∀ (cdv:Value) (A:Around) (outer:List Env) (s:Shared) (H:Hp) (E:XK),Room k (A.deeper (envOfC qual (aj st) s.heap.objs.size f cdv)) →
   ∃F,PSst (cxOf CX0 P w K mg base N qual (aj st) f cdv A outer s H E).nox (cA st) F/\∀ ts,ts.length=n->∀ t,g ts= .ok t->c9 F (bc N.length ts)= .ok t):FnOk P w K mg base CX0 (k+1) f fd ps (spP K n g):=by
 have hpl:ps.length<=N.length:=by have:=congrArg List.length S.pre;rw [List.length_take]at this;omega
 refine Fn.ok S (fun vs H Q E h=> ?_) (fun cdv A outer s H vs Q E hr h=> ?_)
 ·obtain⟨ts,O,r,_,hl,_⟩:=h
  rw [<-r.length,hl,hn]
 ·obtain⟨ts,O,r,trk,hl,h⟩:=h
  obtain⟨F,hF,hv⟩:=hbody cdv A outer s H E hr
  refine⟨_,hF,bc N.length ts,O,noM,start_env r (by omega) trk,?_⟩
  have no:∀ a,¬noM.u a:=fun a ⟨_,z⟩=>z
  cases q:g ts with
  | bad=>rw [q]at h;exact h.elim
  | err c=>rw [q]at h;exact h.elim
  | ok t=>
   rw [q]at h
   have hb:=hv ts hl t q
   unfold c9 at hb
   cases q2:F (bc N.length ts)with
   | bad=>rw [q2]at hb;cases hb
   | err c=>rw [q2]at hb;cases hb
   | ok fl=>
    rw [q2,aD]at hb
    have sameOf:∀ H',SameO noM.u H H'->Same H H':=fun H' s b o e=>s b o e (no b)
    cases fl with
    | nx ρ'=>cases hb;exact fun σ' H' M' s' E' o'=>h .non H' (sameOf H' s') Rep.non_
    | rt t'=>cases hb;exact fun v H' s' r'=>h v H' (sameOf H' s') r'
    | bk ρ'=>cases hb
    | ct ρ'=>cases hb
end
end Tr
namespace Enu
open PySem
open AutoSeq1 (wpAny_loadPart')
section
variable {prog:Program}{w:World}{A:Around}{E:Value->Shared->Prop}{s:Shared}
theorem tupNext {it tt:Addr}{k:Nat}{its:Array Value}{x:Value}{Q:Value->Shared->Prop}(hi:s.heap.IsTupleIter it tt k)(ht:s.heap.IsTuple tt its)(hx:its[k]? =some x)
  (hQ:∀ h',h'.IsTupleIter it tt (k+1)->Heap.SameBut it s.heap h'->Q x { s with heap:=h' }):wpAny (model prog w) A (Builtin.SmallTypes.nextOf (.ref it)) Q E s:=by
 obtain⟨ob,g1,g2,g3⟩:=id hi
 obtain⟨ot,k1,_,m,k3⟩:=ht
 unfold Builtin.SmallTypes.nextOf
 refine wpAny_bind (wpAny_callSpecial?_slot (name:=Str.ofString "__next__") hi.typeIs F.slot_tuple_iterator_next (wpAny_call_entry F.slot_tuple_iterator_next hi.typeIs F.entry_tuple_iterator_next ?_ (F.args_tuple_iterator_next_1 _)))
 show wpAny (model prog w) _ (field (.ref it) 0 >>= _) _ _ s
 refine wpAny_bind (wpAny_field g1 g3 (x:=.ref tt) rfl ?_)
 show wpAny (model prog w) _ (if (Value.ref tt == Value.none)=true then _ else _) _ _ s
 rw [if_neg (show ¬((Value.ref tt == Value.none)=true)by exact Bool.false_ne_true)]
 show wpAny (model prog w) _ (field (.ref it) 1 >>= _) _ _ s
 refine wpAny_bind (wpAny_field g1 g3 (x:=.int k 0) rfl ?_)
 show wpAny (model prog w) _ (seqItems? (.ref tt) >>= _) _ _ s
 refine wpAny_bind (wpAny_seqItems k1 k3 ?_)
 simp only [hx,Int.toNat_natCast]
 refine wpAny_bind (wpAny_setField g1 g3 (by simp) (wpAny_pure ⟨x,rfl,wpAny_pure (hQ _ ?_ (Heap.SameBut.update ..))⟩))
 refine⟨_,Heap.get?_update_self _ g1 (Obj.isFreed_of_fields (Obj.data_mapFields g3 _)),(Obj.cls_mapFields ..).trans g2,?_⟩
 rw [Obj.data_mapFields g3]
 simp [rawInt]
theorem tupStop {it tt:Addr}{k:Nat}{its:Array Value}{Q:Value->Shared->Prop}(hh:A.handled=none)(hi:s.heap.IsTupleIter it tt k)(ht:s.heap.IsTuple tt its)(hx:its[k]? =none)
  (hE:∀ h' e,Heap.ExtBut it s.heap h'->(∃o,h'.get? e=some o/\o.cls= .type "StopIteration")->E (.ref e) { s with heap:=h' }):wpAny (model prog w) A (Builtin.SmallTypes.nextOf (.ref it)) Q E s:=by
 obtain⟨ob,g1,g2,g3⟩:=id hi
 obtain⟨ot,k1,_,m,k3⟩:=ht
 unfold Builtin.SmallTypes.nextOf
 refine wpAny_bind (wpAny_callSpecial?_slot (name:=Str.ofString "__next__") hi.typeIs F.slot_tuple_iterator_next (wpAny_call_entry F.slot_tuple_iterator_next hi.typeIs F.entry_tuple_iterator_next ?_ (F.args_tuple_iterator_next_1 _)))
 show wpAny (model prog w) _ (field (.ref it) 0 >>= _) _ _ s
 refine wpAny_bind (wpAny_field g1 g3 (x:=.ref tt) rfl ?_)
 show wpAny (model prog w) _ (if (Value.ref tt == Value.none)=true then _ else _) _ _ s
 rw [if_neg (show ¬((Value.ref tt == Value.none)=true)by exact Bool.false_ne_true)]
 show wpAny (model prog w) _ (field (.ref it) 1 >>= _) _ _ s
 refine wpAny_bind (wpAny_field g1 g3 (x:=.int k 0) rfl ?_)
 show wpAny (model prog w) _ (seqItems? (.ref tt) >>= _) _ _ s
 refine wpAny_bind (wpAny_seqItems k1 k3 ?_)
 simp only [hx,Int.toNat_natCast]
 refine wpAny_bind (wpAny_rule (wpAny_bind (wpAny_setField g1 g3 (by simp) ?_)))
 show wpAny (model prog w) _ (newExc (.type "StopIteration") [] >>= _) _ _ _
 refine wpAny_bind ?_
 simp only [newTuple,newExc]
 refine wpAny_bind (wpAny_newObj_type ?_ (by size_fits))
 refine wpAny_bind (m:=firstArgMember _ _) (wpAny_of_eq (a:=Value.none) (by first | (simp only [firstArgMember];rfl) | rfl) ?_)
 refine wpAny_newObj_type ?_ (by size_fits)
 simp only [raiseNew]
 refine wpAny_bind (wpAny_handled ?_)
 first | rw [hh] | rw [show A.in1.handled=none from hh]
 refine wpAny_bind (wpAny_pure (wpAny_throw ?_))
 refine hE _ _ (((Heap.SameBut.update ..).extBut.push _).push _) ⟨_,Heap.get?_push_size _ rfl,rfl⟩
end
theorem tupDraws {prog:Program}{w:World}{A:Around}(hh:A.handled=none)(it tt:Addr)(hne:tt≠it)(its:Array Value) :
  Draws prog w A it [it,tt] its.size (fun i v=>its[i]? =some v) (fun i h=>h.IsTupleIter it tt i/\h.IsTuple tt its) where
 live:=fun _ _ st=>by obtain⟨o,ho,_⟩:=st.1;exact⟨o,ho⟩
 frame:=fun _ _ _ st hk=>by
  obtain⟨⟨o,e,r⟩,⟨o',e',r'⟩⟩:=st
  exact⟨⟨o,hk it (by simp) o e,r⟩,⟨o',hk tt (by simp) o' e',r'⟩⟩
 item:=fun i s Q E hi st hQ=>by
  refine tupNext st.1 st.2 (x:=its[i]) (by simp [hi]) fun h' hit' hs'=> ?_
  obtain⟨o',e',r'⟩:=st.2
  exact hQ _ h' s.toks (by simp [hi]) ⟨hit',⟨o',(hs'.2 tt hne).trans e',r'⟩⟩ hs'
 done:=fun s Q E st hE=>tupStop hh st.1 st.2 (by simp) hE
theorem newT (l:Addr)(items:Array Value)(n:Nat)(dct:Option Addr)(sl:Array (Option Value)) :
  Meets (Builtin.«enumerate.__new__» ⟨[.type "enumerate",.ref l],[]⟩) (fun _ R s=>s.heap.get? l=some { cls:=.type "tuple",dict:=dct,data:=.seq items n,slots:=sl } ∧
   R (.ok (.ret (.ref (s.heap.push { cls:=.type "tuple_iterator",data:=.fields #[.ref l,.int 0 0] }).objs.size)))
    { s with heap:=(s.heap.push { cls:=.type "tuple_iterator",data:=.fields #[.ref l,.int 0 0] }).push { cls:=.type "enumerate",data:=.fields #[.none,.bool false,.ref s.heap.objs.size,rawInt 0,.none,.none] } }):=
 .of_wp fun prog w A R s h=>by
  obtain⟨hp,g,d,tk,os⟩:=s;obtain⟨hl,h⟩:=h
  have hsub:=sub_enumerate
  have hT:Heap.IsTuple (Shared.heap ⟨hp,g,d,tk,os⟩) l items:=⟨_,hl,rfl,n,rfl⟩
  wp_walk using wpAny_loadPart' hl
  refine wpAny_stack_any fun st=>wpAny_pure ?_
  split
  ·rename_i c _ _ _ _ _
   cases (c == Value.type "enumerate")
   ·wp_walk using wpAny_loadPart' hl,wpAny_pyIter_tuple hT
    exact⟨_,rfl,h⟩
   ·wp_walk using wpAny_loadPart' hl,wpAny_pyIter_tuple hT
    exact⟨_,rfl,h⟩
  ·wp_walk using wpAny_loadPart' hl,wpAny_pyIter_tuple hT
   exact⟨_,rfl,h⟩
theorem callT {prog:Program}{w:World}{A:Around}{E:Value->Shared->Prop}{s:Shared}{l:Addr}{items:Array Value}{Q:Value->Shared->Prop}(hL:s.heap.IsTuple l items)
  (h:∀ h',IsEnum h' (s.heap.objs.size+1) s.heap.objs.size 0 .none->h'.IsTupleIter s.heap.objs.size l 0->h'.objs.size=s.heap.objs.size+2 →
   (∀b o,s.heap.get? b=some o->h'.get? b=some o)->Q (.ref (s.heap.objs.size+1)) { s with heap:=h' }):wpAny (model prog w) A (call (.type "enumerate") [.ref l]) Q E s:=by
 obtain⟨⟨cc,dc,dd,ss⟩,hl,hc,n,hd⟩:=hL
 replace hc:cc= .type "tuple":=hc
 replace hd:dd= .seq items n:=hd
 subst hc hd
 refine callType_new F.called_enumerate (by decide) (F.typeCall_enumerate_1 _) (F.newCall_enumerate_1 _) (fun obj=>F.args_object_init_2 obj _) F.entry_enumerate_new (newT l items n dc ss) ⟨hl,?_⟩
 have hz:(s.heap.push { cls:=.type "tuple_iterator",data:=.fields #[.ref l,.int 0 0] }).objs.size=s.heap.objs.size+1:=Heap.size_push ..
 show _/\_
 rw [hz]
 have he:IsEnum ((s.heap.push { cls:=.type "tuple_iterator",data:=.fields #[.ref l,.int 0 0] }).push
   { cls:=.type "enumerate",data:=.fields #[.none,.bool false,.ref s.heap.objs.size,rawInt 0,.none,.none] }) (s.heap.objs.size+1) s.heap.objs.size 0 .none:=by
  have q:=Heap.get?_push_size (s.heap.push { cls:=.type "tuple_iterator",data:=.fields #[.ref l,.int 0 0] })
   (o:={ cls:=.type "enumerate",data:=.fields #[.none,.bool false,.ref s.heap.objs.size,rawInt 0,.none,.none] }) rfl
  rw [hz]at q;exact q
 refine⟨⟨_,he,rfl⟩,h _ he ⟨_,Heap.get?_push_of_some _ (Heap.get?_push_size _ rfl),rfl,rfl⟩ (by rw [Heap.size_push,hz]) fun b o x=>Heap.get?_push_of_some _ (Heap.get?_push_of_some _ x)⟩
end Enu
namespace L2
open PySem PySem.Spec PyProof.Rows
section
variable {X:Cx}{pins:List (Addr×Obj)}{σ:L2.St}{H:Hp}{s:Shared}{h':Heap}
theorem Inv.turnedT {t':Nat}{fp:List Addr}{Tp:Addr}{xs:List V}(I:Inv X pins σ H s)(hf:∀ b∈fp,FpOk X pins H b)(k:∀ b o,b∉fp->s.heap.get? b=some o->h'.get? b=some o)
  (ht:∀ b∈fp,∃o,h'.get? b=some o) (hT:s.heap.objs.size<=Tp) (new:ObjOk X.prog X.w (upd H Tp (.tup xs)) h' Tp (.tup xs)):Inv X pins σ (upd H Tp (.tup xs)) { s with heap:=h',toks:=t' }:=by
 have hn:H Tp=none:=I.hok.fresh hT
 have neT:∀ b o,s.heap.get? b=some o->b≠Tp:=fun b o e=>Nat.ne_of_lt (Nat.lt_of_lt_of_le (Heap.lt_size e) hT)
 have nf:∀ b u,H b=some u->b∉fp:=fun b u e z=>by rw [(hf b z).1]at e;cases e
 refine I.step (g':=s.gens) (d':=s.drawn) (ch:=fp) (fun b hb=>⟨(hf b hb).2.2.2.1,(hf b hb).2.1,(hf b hb).2.2.2.2.1,(hf b hb).2.2.2.2.2⟩) (fun b o _ _ hc e _=>k b o hc e) (fun b o _ _ hc e _=>⟨o.slots,k b o hc e⟩)
  (fun b o _ e n=>by rw [aA (neT b o e)];exact n) (fun b o hc e=>⟨o,k b o hc e⟩) (fun b ys e=>by rw [aA (bO e hn)];exact e) (fun b o u e=>by rw [aA (bO e hn)];exact e)
  (fun b ps e=>⟨#[],by rw [aA (bO e hn),e];simp⟩) (fun m hm=> ?_) (fun b u e=> ?_) I.bare
 ·obtain⟨o,es,ep,ho,r⟩:=hm
  exact⟨o,es,ep,k _ o (fun z=>(hf _ z).2.1 rfl) ho,r⟩
 ·by_cases hb:b=Tp
  ·subst hb;rw [aG]at e;cases e;exact new
  ·rw [aA hb]at e
   refine(I.hok b u e).stay (fun c v hc q=>k c v ?_ q) (fun c q=>by rw [aA (bO q hn)];exact q) fun c ys q=>by rw [aA (bO q hn)];exact q
   rcases hc with z | z
   ·rw [z];exact nf b u e
   ·exact nf c _ z
theorem Inv.turnedL {t':Nat}{fp:List Addr}(I:Inv X pins σ H s)(hf:∀ b∈fp,FpOk X pins H b)(k:∀ b o,b∉fp->s.heap.get? b=some o->h'.get? b=some o):Inv X pins σ H { s with heap:=h',toks:=t' }:=by
 have nf:∀ b u,H b=some u->b∉fp:=fun b u e z=>by rw [(hf b z).1]at e;cases e
 refine I.step (g':=s.gens) (d':=s.drawn) (ch:=fp) (fun b hb=>⟨(hf b hb).2.2.2.1,(hf b hb).2.1,(hf b hb).2.2.2.2.1,(hf b hb).2.2.2.2.2⟩) (fun b o _ _ hc e _=>k b o hc e) (fun b o _ _ hc e _=>⟨o.slots,k b o hc e⟩)
  (fun b o _ e n=>n) (fun b o hc e=>⟨o,k b o hc e⟩) (fun b ys e=>e) (fun b o u e=>e)
  (fun b ps e=>⟨#[],by rw [e];simp⟩) (fun m hm=> ?_) (fun b u e=> ?_) I.bare
 ·obtain⟨o,es,ep,ho,r⟩:=hm
  exact⟨o,es,ep,k _ o (fun z=>(hf _ z).2.1 rfl) ho,r⟩
 ·refine(I.hok b u e).stay (fun c v hc q=>k c v ?_ q) (fun c q=>q) fun c ys q=>q
  rcases hc with z | z
  ·rw [z];exact nf b u e
  ·exact nf c _ z
end
def SqX (K:PySem.W.Frag)(H:Hp)(a:Addr)(tt:Bool)(xs:List V):Prop:=if tt then SqT K H a xs else SqL K H a xs
def Ite (K:PySem.W.Frag)(a:Addr)(tt:Bool):It:=
 ⟨fun i H=> ∃xs x,SqX K H a tt xs/\xs[i]? =some x,fun i H x H'=> ∃p v,x= .ref p/\H p=none/\H'=upd H p (.tup [.int (i:Nat),v])/\∀ xs,SqX K H a tt xs->xs[i]? =some v,fun i H=> ∃xs,SqX K H a tt xs/\xs.length<=i⟩
def itAt (tt:Bool)(h:Heap)(it a:Addr)(i:Nat):Prop:=if tt then h.IsTupleIter it a i else h.IsListIter it a i
theorem itAt.obj {tt:Bool}{h:Heap}{it a:Addr}{i:Nat}(st:itAt tt h it a i):∃ o,h.get? it=some o/\∀ v,o.data≠ .cell v:=by
 cases tt with
 | true=>obtain⟨o,e,c,d⟩:=(show h.IsTupleIter it a i from st);exact⟨o,e,fun v z=>by rw [d]at z;cases z⟩
 | false=>obtain⟨o,e,c,d⟩:=(show h.IsListIter it a i from st);exact⟨o,e,fun v z=>by rw [d]at z;cases z⟩
theorem itAt.keep {tt:Bool}{h h':Heap}{it a:Addr}{i:Nat}(st:itAt tt h it a i)(k:∀ o,h.get? it=some o->h'.get? it=some o):itAt tt h' it a i:=by
 cases tt with
 | true=>obtain⟨o,e,r⟩:=(show h.IsTupleIter it a i from st);exact(show h'.IsTupleIter it a i from⟨o,k o e,r⟩)
 | false=>obtain⟨o,e,r⟩:=(show h.IsListIter it a i from st);exact(show h'.IsListIter it a i from⟨o,k o e,r⟩)
theorem turn_enum {P:Program}{w:World}{K:PySem.W.Frag}{elts:List Expr}{kk:Nat}{pos:Pos}(tt:Bool)(a e it:Addr)(hei:e≠it) :
  Turn P w K (.Tuple elts kk pos) (Ite K a tt) [e,it] e (fun i h=>(∃old,IsEnum h e it i old)/\itAt tt h it a i) where
 mem:=by simp
 obj:=fun i h st b hb=>by
  obtain⟨⟨old,he⟩,hi⟩:=st
  rcases List.mem_cons.mp hb with rfl | hb
  ·exact⟨_,he,fun v z=>by have z':Data.fields _=Data.cell v:=z;cases z'⟩
  ·rw [List.mem_singleton.mp hb];exact hi.obj
 keep:=fun i h h' st k=>by
  obtain⟨⟨old,he⟩,hi⟩:=st
  exact⟨⟨old,k e (by simp) _ he⟩,hi.keep fun o q=>k it (by simp) o q⟩
 item:=by
  intro X hP hw hK hc i pins s σ H E I hf st hg
  subst hP hw hK
  obtain⟨xs,x,hq,hx⟩:=hg
  obtain⟨⟨old,he⟩,hi⟩:=st
  -- by what is walked
  have key:∀ (its:List Value),Vals xs its->(∀ys,SqX X.K H a tt ys->ys=xs)->∀ (fp0:List Addr) (St:Nat->Heap->Prop),Draws X.prog X.w X.A.in1 it fp0 its.toArray.size (fun i v=>its.toArray[i]? =some v) St->e∉fp0->it∈fp0->St i s.heap →
    (∀h',St (i+1) h'->itAt tt h' it a (i+1)) →
    wpAny (model X.prog X.w) X.A (pyNext (.ref e)) (fun r s1=> ∃u,r=some u/\wpAny (model X.prog X.w) X.A (letOwnedTupleGo (.Tuple elts kk pos) (.ref e) u) (fun _ s2=> ∃x' H',Inv X pins σ H' s2/\RelV x' u/\(Ite X.K a tt).yld i H x' H' ∧
     ((∃old,IsEnum s2.heap e it (i+1:Nat) old)/\itAt tt s2.heap it a (i+1))/\∀ b∈ [e,it],H' b=none) E s1) E s:=by
   intro its rv uniq fp0 St D hef hif hst hnext
   obtain⟨u,hu,ru⟩:=rv.get hx
   have hlt:i<its.toArray.size:=by
    have:=(List.getElem?_eq_some_iff.mp hu).1
    simpa using this
   have W:=WalksT.enumerateD D e hei hef hif
   refine W.item i s _ _ hlt ⟨⟨old,he⟩,hst⟩ fun Tp vals h1 tk hPt hTsz hTup hMid hk=>⟨.ref Tp,rfl,?_⟩
   refine W.go elts kk pos i Tp { s with heap:=h1,toks:=tk } _ _ hMid fun h2 hst2 hk2=> ?_
   obtain⟨t,x',hPx,hvals⟩:=hPt
   subst hvals
   have hxe:x'=u:=by
    have h1':its.toArray[i]? =some x':=hPx
    have h2':its.toArray[i]? =some u:=by simpa using hu
    rw [h1']at h2';exact Option.some.inj h2'
   subst hxe
   have hTw:=W.apart i Tp h1 hMid
   obtain⟨oT,eT,rT⟩:=hTup
   have eT2:h2.get? Tp=some oT:=hk2 Tp oT hTw eT
   have kAll:∀ b o,b∉ [e,it]->s.heap.get? b=some o->h2.get? b=some o:=fun b o hb q=>hk2 b o hb (hk b o hb q)
   obtain⟨⟨old2,he2⟩,hs2⟩:=hst2
   have hit2:=hnext h2 hs2
   have there:∀ b∈ [e,it],∃o,h2.get? b=some o:=fun b hb=>by
    rcases List.mem_cons.mp hb with rfl | hb
    ·exact⟨_,he2⟩
    ·rw [List.mem_singleton.mp hb];obtain⟨o,q,_⟩:=hit2.obj;exact⟨o,q⟩
   have hn:H Tp=none:=I.hok.fresh hTsz
   have new:ObjOk X.prog X.w (upd H Tp (.tup [.int (i:Nat),x])) h2 Tp (.tup [.int (i:Nat),x]):=
    ⟨by show 2<=sizeLine;decide,[.int (i:Nat) t,x'],.cons ⟨t,rfl⟩ (.cons ru .nil),⟨oT,eT2,rT⟩⟩
   have I2:=I.turnedT (t':=tk) hf kAll there hTsz new
   refine⟨.ref Tp,_,I2,rfl,⟨Tp,x,rfl,hn,rfl,fun ys hy=>by rw [uniq ys hy];exact hx⟩,⟨⟨old2,he2⟩,hit2⟩,fun b hb=> ?_⟩
   have hbT:b≠Tp:=fun z=>by
    obtain⟨o,q⟩:∃ o,s.heap.get? b=some o:=by
     rcases List.mem_cons.mp hb with rfl | hb
     ·exact⟨_,he⟩
     ·rw [List.mem_singleton.mp hb];obtain⟨o,q,_⟩:=hi.obj;exact⟨o,q⟩
    exact absurd (Nat.lt_of_lt_of_le (Heap.lt_size q) hTsz) (by rw [z];exact Nat.lt_irrefl _)
   rw [aA hbT]
   exact(hf b hb).1
  have hne:∀ b∈ [e,it],a≠b:=fun b hb z=>by
   have hb':=(hf b hb).1
   rw [<-z]at hb'
   have hbs:=hf b hb
   cases tt with
   | true=>
    have hq':SqT X.K H a xs:=hq
    rcases hq' with(q | ⟨o,q⟩) | ⟨o,its,n,q,_⟩
    ·rw [hb']at q;cases q
    ·rw [hb']at q;cases q
    ·rcases hbs.2.2.2.1 with z1 | z1
     ·exact I.ok.noex a o (I.ok.mod.kin a o q) (z▸z1)
     ·exact absurd (Nat.lt_of_lt_of_le (Heap.lt_size (I.ok.bs a o (I.ok.mod.kin a o q)).1) (z▸z1)) (Nat.lt_irrefl _)
   | false=>
    have hq':SqL X.K H a xs:=hq
    rcases hq' with(q | ⟨o,q⟩) | ⟨o,its,n,q,_⟩
    ·rw [hb']at q;cases q
    ·rw [hb']at q;cases q
    ·rcases hbs.2.2.2.1 with z1 | z1
     ·exact I.ok.noex a o (I.ok.mod.kin a o q) (z▸z1)
     ·exact absurd (Nat.lt_of_lt_of_le (Heap.lt_size (I.ok.bs a o (I.ok.mod.kin a o q)).1) (z▸z1)) (Nat.lt_irrefl _)
  have hea:e≠a:=fun z=>hne e (by simp) z.symm
  have hia:it≠a:=fun z=>hne it (by simp) z.symm
  cases tt with
  | true=>
   have hq':SqT X.K H a xs:=hq
   obtain⟨its,rv,p,hz⟩:=I.tuple hq'
   exact key its rv (fun ys hy=>I.tuple_inj hy hq') _ _ (Enu.tupDraws (A:=X.A.in1) (I.ok.hd hc) it a (Ne.symm hia) its.toArray) (by simp [hei,hea]) (by simp) ⟨hi,p⟩ fun h' z=>z.1
  | false=>
   have hq':SqL X.K H a xs:=hq
   obtain⟨its,rv,p,hz⟩:=I.list hq'
   exact key its rv (fun ys hy=>I.list_inj hy hq') _ _ (Draws.list (A:=X.A.in1) (I.ok.hd hc) it a (Ne.symm hia) its.toArray) (by simp [hei,hea]) (by simp) ⟨hi,p.isList⟩ fun h' z=>z.1
 done:=by
  intro X hP hw hK hc i pins s σ H E I hf st hg
  subst hP hw hK
  obtain⟨xs,hq,hx⟩:=hg
  obtain⟨⟨old,he⟩,hi⟩:=st
  have fin:∀ h',Heap.ExtBut it s.heap h'->(none:Option Value)=none/\Inv X pins σ H { s with heap:=h' }:=fun h' eb=>⟨rfl,I.turnedL (t':=s.toks) hf fun b o hb q=>eb b o (fun z=>hb (by simp [z])) q⟩
  cases tt with
  | true=>
   have hq':SqT X.K H a xs:=hq
   obtain⟨its,rv,p,hz⟩:=I.tuple hq'
   have hl:=rv.length
   have hnone:its.toArray[i]? =none:=by simp;omega
   have hT:s.TypeIs (.ref e) "enumerate":=⟨_,he,rfl⟩
   unfold pyNext
   refine wpAny_bind (wpAny_attempt (wpAny_callSpecial?_slot (name:=Str.ofString "__next__") hT F.slot_enumerate_next (wpAny_call_entry F.slot_enumerate_next hT F.entry_enumerate_next ?_ (F.args_enumerate_next_1 _))))
   show wpAny (model X.prog X.w) _ (field (.ref e) 2 >>= _) _ _ _
   refine wpAny_bind (wpAny_field he rfl (x:=.ref it) rfl ?_)
   refine wpAny_bind (Enu.tupStop (I.ok.hd hc) hi p hnone fun h' x he' hx'=> ?_)
   obtain⟨o,ho,hcl⟩:=hx'
   exact wpAny_bind (wpAny_isInstance (T:="StopIteration") (b:=true) ⟨o,ho,hcl⟩ isSubtype_stop (wpAny_pure (fin h' he')))
  | false=>
   have hq':SqL X.K H a xs:=hq
   obtain⟨its,rv,p,hz⟩:=I.list hq'
   have hl:=rv.length
   have hnone:its.toArray[i]? =none:=by simp;omega
   exact wpAny_pyNext_enum_end (I.ok.hd hc) he hi p.isList hnone fin
 self:=fun _ _ _ _ _ st h=>by
  obtain⟨⟨old,he⟩,_⟩:=st
  exact wpAny_pyIter_enum he h
section
variable {X:Cx}{elts:List Expr}{kk:Nat}{tpos:Pos}
theorem boot_enumerate:bootBuiltins "enumerate" =some (.type "enumerate"):=by decide+kernel
def iEnu (K:PySem.W.Frag)(tl:TA):TI:=fun σ H R=>tl σ H fun vs H1=> ∃a tt,vs= [.ref a]/\(∃xs,SqX K H1 a tt xs)/\R (Ite K a tt) H1
theorem pi_enum {l:Expr}{tl:TA}{p pos:Pos}(hg:Gl X "enumerate")(hm:X.mg "enumerate" =none)(hl:PA X [l] tl)(hs:starEach [l] X.env= [(false,eval l X.env)]:=by rfl):PI X (.Tuple elts kk tpos) (.Call (.Name "enumerate" p) [l] [] pos) (iEnu X.K tl):=by
 intro pins s σ H R I h
 refine Call_ (fN I hg hm boot_enumerate (PyProof.Rows.callWith_type1 (bK (hl pos pins s σ H _ I h) fun us s1 ⟨vs,H1,I1,r1,q1⟩=> ?_) hs rfl))
 obtain⟨a,tt,e,⟨xs,hq⟩,q⟩:=q1
 subst e
 obtain⟨u,rfl,ru⟩:=vals1 r1
 cases ru
 have fin:∀ h',IsEnum h' (s1.heap.objs.size+1) s1.heap.objs.size 0 .none->itAt tt h' s1.heap.objs.size a 0->h'.objs.size=s1.heap.objs.size+2->(∀b o,s1.heap.get? b=some o->h'.get? b=some o) →
   wpAny (model X.prog X.w) X.A (pyIter (.ref (s1.heap.objs.size+1))) (PIE X pins σ (.Tuple elts kk tpos) R) X.xe { s1 with heap:=h' }:=fun h' he hi hsz hk=>by
  refine wpAny_pyIter_enum he ?_
  have I2:Inv X pins σ H1 { s1 with heap:=h' }:=I1.kept (t':=s1.toks) hk
  refine⟨s1.heap.objs.size+1,[s1.heap.objs.size+1,s1.heap.objs.size],_,_,H1,rfl,I2,turn_enum tt a (s1.heap.objs.size+1) s1.heap.objs.size (Nat.succ_ne_self _),⟨⟨_,he⟩,hi⟩,fun b hb=> ?_,q⟩
  rcases List.mem_cons.mp hb with rfl | hb
  ·exact I1.fpOk (by omega) (I1.hok.fresh (by omega))
  ·rw [List.mem_singleton.mp hb];exact I1.fpOk (Nat.le_refl _) (I1.hok.fresh (Nat.le_refl _))
 cases tt with
 | true=>
  have hq':SqT X.K H1 a xs:=hq
  obtain⟨its,rv,pl,hz⟩:=I1.tuple hq'
  exact Enu.callT pl fun h' he hi hsz hk=>fin h' he hi hsz hk
 | false=>
  have hq':SqL X.K H1 a xs:=hq
  obtain⟨its,rv,pl,hz⟩:=I1.list hq'
  exact call_enumerate_list pl.isList fun h' he hi hsz hk=>fin h' he hi hsz hk
end
end L2
namespace Tr
open PySem PySem.Spec PyProof.Rows L2
section
variable {X:Cx}{a:Expr}{fa:En->Rs T}{fs:En->Rs (List T)}{p pos:Pos}
def iS (f:En->Rs T)(ρ:En):Rs (List T):=do
 let x <-f ρ
 match x with
 | .lst l=> .ok l
 | .tup l=> .ok l
 | _=> .bad
theorem qi_seq {tg:Expr}(ha:bZ X a fa):PIt X tg a (iS fa):=by
 intro pins s σ H R I ⟨ρ,O,E,h⟩
 unfold iS at h
 cases q:fa ρ with
 | bad=>rw [q]at h;exact h.elim
 | err c=>exact qi_list ha pins s σ H R I ⟨ρ,O,E,by unfold iL;rw [q]at h ⊢;exact h⟩
 | ok x=>
  rw [q,aD]at h
  cases x with
  | lst l=>exact qi_list ha pins s σ H R I ⟨ρ,O,E,by unfold iL;rw [q];exact h⟩
  | tup l=>exact qi_tup ha pins s σ H R I ⟨ρ,O,E,by unfold iT;rw [q];exact h⟩
  | _=>exact h.elim
def ba:Nat->List T->List T
 | _,[] => []
 | n,t::r=> .tup [.int n,t] ::ba (n+1) r
theorem enumL_get:∀ (l:List T) (n i:Nat),(ba n l)[i]? =(l[i]?).map fun t=>T.tup [.int ((n+i:Nat):Int),t]
 | [],n,i=>by simp [ba]
 | t::l,n,0=>by simp [ba]
 | t::l,n,i+1=>by
  rw [ba,List.getElem?_cons_succ,enumL_get l (n+1) i,List.getElem?_cons_succ]
  congr 2
  funext t
  congr 4
  omega
theorem enumL_len:∀ (l:List T) (n:Nat),(ba n l).length=l.length
 | [],n=>rfl
 | t::l,n=>by rw [ba,List.length_cons,List.length_cons,enumL_len l]
def iE (f:En->Rs (List T))(ρ:En):Rs (List T):=do
 let xs <-f ρ
 match xs with
 | [x] =>match x.items with
  | some l=> .ok (ba 0 l)
  | none=> .bad
 | _=> .bad
theorem qi_enum {elts:List Expr}{kk:Nat}{tpos:Pos}(hm:X.mg "enumerate" =none)(ha:PAt X [a] fs)(hg:Gl X "enumerate":=by rfl)(hs:starEach [a] X.env= [(false,eval a X.env)]:=by rfl) :
  PIt X (.Tuple elts kk tpos) (.Call (.Name "enumerate" p) [a] [] pos) (iE fs):=PI.imp (pi_enum hg hm ha hs) fun σ H R hh_=>by
 obtain⟨ρ,O,E,h⟩:=hh_
 obtain⟨ρ1,O1,E1,h1⟩:=fD E h
 refine⟨ρ1,O1,E1,Post.mono h1 fun ts H1 s1 q vs r=> ?_⟩
 obtain⟨t',r',s',E',q'⟩:=q vs r
 split at q'
 ·rename_i x0
  obtain⟨v,rfl,rv⟩:=r'.one
  split at q'
  ·rename_i l hl
   have main:∀ (aa:Addr) (tt:Bool) (ws:List V),v= .ref aa->¬ O aa->Reps X.K O H1 l ws->SqX X.K H1 aa tt ws->(∀P Hc,SameO P H1 Hc->¬ P aa->SqX X.K Hc aa tt ws)->¬ Nw X.K H1 aa →
     ∃a tt,[v] = [V.ref a]/\(∃xs,SqX X.K H1 a tt xs)/\R (Ite X.K a tt) H1:=fun aa tt ws e n z sq mv nn=>by
    refine⟨aa,tt,by rw [e],⟨ws,sq⟩,q' H1 (Same.refl H1) _ fun P O' hP hO i Hc hsm htr=> ?_⟩
    have hnP:¬ P aa:=fun y=>(hP aa y).elim n nn
    have sqc:=mv P Hc hsm hnP
    refine⟨fun hi=>⟨ws,sqc,by rw [<-z.length,<-enumL_len l 0];exact hi⟩,fun t ht=> ?_⟩
    rw [enumL_get]at ht
    cases e1:l[i]? with
    | none=>rw [e1]at ht;cases ht
    | some t0=>
     rw [e1]at ht
     cases ht
     obtain⟨v0,f1,f2⟩:=z.get e1
     refine⟨⟨ws,v0,sqc,f1⟩,fun x Hc' y=> ?_⟩
     obtain⟨pp,vv,e2,hpn,e3,hy⟩:=y
     have:=hy ws sqc
     rw [f1]at this;cases this
     subst e2 e3
     refine⟨aS hpn _,fJ hpn (fun zz=> ?_) (Reps.cons_ (by simpa using Rep.int_ _) (Reps.cons_ (f2.move hP hO hsm) Reps.nil_))⟩
     obtain⟨o,w⟩:=htr pp zz
     rw [hpn]at w;cases w
   cases x0 with
   | tup m=>
    cases hl
    obtain⟨aa,ws,e,n,qq,z⟩:=Rep.tup_iff.mp rv
    exact main aa true ws e n z (show SqT X.K H1 aa ws from SqT.of qq) (fun P Hc hsm hn=>show SqT X.K Hc aa ws from SqT.of (hsm _ _ qq hn)) fun w=>by rw [w.1]at qq;cases qq
   | lst m=>
    cases hl
    obtain⟨aa,ws,e,n,qq,z⟩:=Rep.lst_iff.mp rv
    exact main aa false ws e n z (show SqL X.K H1 aa ws from SqL.of qq) (fun P Hc hsm hn=>show SqL X.K Hc aa ws from SqL.of (hsm _ _ qq hn)) fun w=>by rw [w.1]at qq;cases qq
   | scr m=>
    cases hl
    unfold Rep at rv
    obtain⟨aa,e,n,qq⟩:=rv
    exact main aa false _ e n Reps.ints (show SqL X.K H1 aa _ from qq) (fun P Hc hsm hn=>show SqL X.K Hc aa _ from Tr.SqL.keep hsm hn qq) (Tr.SqL.nn qq)
   | _=>cases hl
  ·exact q'.elim
 ·exact q'.elim
end
end Tr
namespace Tm
open PySem PyProof.Rows
theorem noFill_tuple_mul:fillsNumberSlot (.type "tuple") "mul" =pure false:=
 PySem.fillsNumberSlot_seq (id:="tuple.__mul__") (r:=some (.builtin "tuple.__rmul__")) F.slot_tuple_mul.lookup (by decide+kernel) F.slot_tuple_rmul.lookup (by decide+kernel)
theorem repeat_tuple:seqRepeat? (.type "tuple")=pure (some (.builtin "tuple.__mul__")):=by
 unfold seqRepeat?
 rw [PySem.seqSlot_of (T:="tuple") (name:="__mul__") (id:="tuple.__mul__") F.slot_tuple_mul.lookup (by decide+kernel),PySem.seqSlot_of (T:="tuple") (name:="__rmul__") (id:="tuple.__rmul__") F.slot_tuple_rmul.lookup (by decide+kernel)]
 rfl
theorem rmul_tuple (a:Int)(t:Tok)(l:Addr)(items:Array Value)(n:Nat)(dd:Option Addr)(sl:Array (Option Value)) :
  Meets (Builtin.«int.__rmul__» ⟨[.int a t,.ref l],[]⟩) (fun _ R s=>s.heap.get? l=some { cls:=.type "tuple",dict:=dd,data:=.seq items n,slots:=sl }/\R (.ok (.ret Value.notImplemented)) s):=
 .of_wp fun prog w A R s h=>by obtain⟨hp,g,d,tk,os⟩:=s;obtain⟨hl,h⟩:=h;wp_walk;exact⟨_,rfl,h⟩
open AutoSeq1 (wpAny_loadPart')
theorem mulMeets (l:Addr)(items:Array Value)(n:Nat)(dd:Option Addr)(sl:Array (Option Value))(x:Int)(u:Tok)(h1:1<x)(h2:x<2 ^ 31)(hne:items.isEmpty=false)(hz:items.size*x.toNat<=sizeLine)
  (hz2:(List.foldl (fun a b=>a++b) #[] (List.replicate x.toNat items)).size<=sizeLine) :
  Meets (Builtin.«tuple.__mul__» ⟨[.ref l,.int x u],[]⟩) (fun _ R s=>s.heap.get? l=some { cls:=.type "tuple",dict:=dd,data:=.seq items n,slots:=sl } ∧
   R (.ok (.ret (Value.ref s.heap.objs.size))) { s with heap:=s.heap.push { cls:=Value.type "tuple",data:=Data.seq (List.foldl (fun a b=>a++b) #[] (List.replicate x.toNat items)) } }):=
 .of_wp fun prog w A R s h=>by
  obtain⟨hp,g,d,tk,os⟩:=s;obtain⟨hl,h⟩:=h
  have hT:IsTup hp l items:=⟨_,hl,rfl,n,rfl⟩
  have hx:((items.size:Nat):Int)*x=((items.size*x.toNat:Nat):Int):=by
   have e:x=((x.toNat:Nat):Int):=by omega
   rw [Int.natCast_mul,<-e]
  wp_walk using wpAny_loadPart' hl
  rw [if_neg (by simp;omega)]
  refine wpAny_bind (tupleItemsOf_ (s:=⟨hp,g,d,tk,os⟩) hT ?_)
  dsimp only
  rw [if_neg (by rw [hne];simp;omega),if_neg (by rw [hne];simp;omega),hx,if_neg (by have:(sizeLine:Nat)<=1000000000:=(by decide);omega),if_neg (by unfold Builtin.Tuple.tupleTooMany;rw [decide_eq_true_iff];omega)]
  refine wpAny_bind (m:=Builtin.Tuple.tupleExact _) (wpAny_newObj_type ?_ hz2)
  exact wpAny_pure ⟨_,rfl,h⟩
section
variable {prog:Program}{w:World}{A:Around}{E:Value->Shared->Prop}{s:Shared}
theorem mul_tuple {t:Addr}{vs:List Value}{k:Int}{tk:Tok}{Q:Value->Shared->Prop}(ht:IsTup s.heap t vs.toArray)(h1:1<k)(h2:k<2 ^ 31)(hv:vs≠ [])(hz:vs.length*k.toNat<=sizeLine)
  (h:Q (.ref s.heap.objs.size) { s with heap:=s.heap.push { cls:=.type "tuple",data:=.seq (List.replicate k.toNat vs).flatten.toArray } }) :
  wpAny (model prog w) A (binaryOp .Mult (.ref t) (.int k tk)) Q E s:=by
 obtain⟨⟨cls,dd,data,sl⟩,ho,hc,n,hd⟩:=id ht
 simp only at hc hd
 subst hc hd
 have e:List.foldl (fun a b=>a++b) #[] (List.replicate k.toNat vs.toArray)=(List.replicate k.toNat vs).flatten.toArray:=by
  have q:=L2.foldl_rep vs k.toNat []
  simpa using q
 refine wpAny_binaryOp_repeat_ref (T:="tuple") (U:="int") (by decide) ⟨_,ho,rfl⟩ (fun s'=>typeIs_int s' k tk) noFill_tuple_mul F.fills_int_mul F.slot_int_rmul repeat_tuple F.slot_int_index.lookup
  (call_meets F.slot_int_rmul (typeIs_int s k tk) F.entry_int_rmul (F.args_int_rmul_2 _ _) (rmul_tuple k tk t vs.toArray n dd sl)
   ⟨ho,rfl,⟨_,ho,rfl⟩,call_meets F.slot_tuple_mul ⟨_,ho,rfl⟩ F.entry_tuple_mul (F.args_tuple_mul_2 _ _) (mulMeets t vs.toArray n dd sl k tk h1 h2 (by simpa using hv) (by simpa using hz) (by rw [e,List.size_toArray,L2.len_rep,Nat.mul_comm];exact hz)) ⟨ho,?_⟩⟩)
 rw [e]
 exact h
end
end Tm
namespace Tr
open PySem PySem.Spec PyProof.Rows L2
section
variable {X:Cx}
def bM (x y:T):Rs T:=match x,y with
 | .tup l,.int k=>if 1<k/\k<2 ^ 31/\l≠ []/\l.length*k.toNat<=sizeLine then .ok (.tup (List.replicate k.toNat l).flatten)else .bad
 | x,y=>mulT x y
instance (l:List T):Decidable (l≠ []):=by cases l <;> simp <;> infer_instance
theorem cL:OpT X (binaryOp .Mult) bM:=by
 intro pins s σ H O x y vx vy ux uy Q I hf rx ry r1 r2 hp
 unfold bM at hp
 split at hp
 ·rename_i l k
  split at hp
  ·rename_i h
   obtain⟨a,vs,e1,n1,q1,z1⟩:=Rep.tup_iff.mp rx
   subst e1
   cases Rep.int_iff.mp ry
   cases r1
   obtain⟨tk,rfl⟩:=r2
   obtain⟨its,rv,pl,hz⟩:=I.tuple (SqT.of q1)
   have hl1:=z1.length
   have hl2:=rv.length
   have hne:its≠ []:=fun z=>h.2.2.1 (List.eq_nil_of_length_eq_zero (by rw [hl1,hl2,z];rfl))
   refine Tm.mul_tuple pl h.1 h.2.1 hne (by rw [<-hl2,<-hl1];exact h.2.2.2) ?_
   have hn:=I.hok.fresh (Nat.le_refl _)
   refine⟨.ref _,_,I.laid (t':=s.toks) (o:=.tup (List.replicate k.toNat vs).flatten) (fun b ob q=>Heap.get?_push_of_some _ q) (Nat.le_refl _) ?_,rfl,hp _ (aS hn _) _ (fJ hn (hf _ hn) (z1.rep _))⟩
   refine⟨?_,_,rv.rep k.toNat,IsTup.new _ _⟩
   rw [len_rep,Nat.mul_comm,<-hl1]
   exact h.2.2.2
  ·exact hp.elim
 ·exact ot_mul pins s σ H O _ _ vx vy ux uy Q I hf rx ry r1 r2 hp
end
def lcOk (outer:List (Str×NameKind))(N:List Str)(names:List (Str×NameKind))(N':List Str)(src:List (Option Nat)):Bool:=
 names.all (fun y=>y.2 != .cell||names.lookup y.1 == some .cell)&&names.all (fun y=>y.2 != .local||names.lookup y.1 == some .local)&&src.length == N'.length&&
 (List.range N'.length).all (fun j=>match src[j]? with
  | some (some i)=>match N'[j]? with
   | some x=>N[i]? == some x&&names.lookup x == some .free
   | none=>true
  | _=>true)&&
 names.all (fun y=>y.2 != .free||(outer.lookup y.1 == some .cell||outer.lookup y.1 == some .free))
theorem LcScope.by {X:Cx}{scope:Scope}{N N':List Str}{src:List (Option Nat)}{names:List (Str×NameKind)}(hN:X.N=N)(hs:X.env.scope.names=names)(hk:scope.kind= .function)(h:lcOk names N scope.names N' src=true):LcScope X scope N' src:=by
 unfold lcOk at h
 simp only [Bool.and_eq_true]at h
 obtain⟨⟨⟨⟨h1,h2⟩,h3⟩,h4⟩,h5⟩:=h
 have a1:=List.all_eq_true.mp h1
 have a2:=List.all_eq_true.mp h2
 have a4:=List.all_eq_true.mp h4
 have a5:=List.all_eq_true.mp h5
 refine⟨hk,fun y hy hl=>by have:=a1 y hy;rw [hl]at this;simpa using this,fun y hy hl=> ?_,by simpa using h3,fun j i x e1 e2=> ?_,fun x hx=> ?_⟩
 ·have:=a2 y hy
  rw [hl]at this
  simpa using this
 ·have hj:j<N'.length:=(List.getElem?_eq_some_iff.mp e2).1
  have:=a4 j (List.mem_range.mpr hj)
  rw [e1]at this
  simp only [e2]at this
  rw [Bool.and_eq_true]at this
  rw [hN]
  exact⟨by simpa using this.1,by simpa using this.2⟩
 ·have:=a5 _ hx
  simp only [bne_self_eq_false,Bool.false_or,Bool.or_eq_true]at this
  show X.env.scope.names.lookup x=_\/X.env.scope.names.lookup x=_
  rw [hs]
  rcases this with z | z
  ·exact .inl (by simpa using z)
  ·exact .inr (by simpa using z)
def bo:Expr->Bool
 | .Starred .. =>false
 | _=>true
def cj:List Expr->Bool
 | [] =>true
 | e::r=>bo e&&cj r
theorem bf {e:Expr}{es:List Expr}{env:Env}(h:bo e=true):starEach (e::es) env=(false,eval e env)::starEach es env:=by
 cases e <;> first | rfl | cases h
theorem star_any {pos:Pos}{env:Env}:∀ {es:List Expr},cj es=true->(backTo pos (starEach es env)).any (·.1)=false
 | [],_=>rfl
 | e::r,h=>by
  unfold cj at h
  rw [Bool.and_eq_true]at h
  rw [bf h.1]
  have ih:=star_any (pos:=pos) (env:=env) h.2
  show(false||(backTo pos (starEach r env)).any (·.1))=false
  rw [ih];rfl
section
variable {X:Cx}{a b e:Expr}{es:List Expr}{fa:En->Rs T}{fs:En->Rs (List T)}{pos p p2:Pos}{x:Str}
theorem qa_c {f:En->Rs T}{g:En->Rs (List T)}(he:bZ X e f)(hr:PAt X es g)(hn:bo e=true:=by rfl):PAt X (e::es) (ac f g):=qa_cons he hr (bf hn)
theorem q_cB {id:String}{g:List T->Rs T}(hc:CallT X (.builtin id) g)(hm:X.mg x=none)(hv:bootBuiltins x=some (.builtin id))(ha:PAt X (e::es) fs)(hn:cj (e::es)=true:=by rfl)(hg:Gl X x:=by rfl)(h1:x≠ "__name__":=by decide)(h2:(x == ("__debug__" : Str))=false:=by decide) :
  bZ X (.Call (.Name x p) (e::es) [] pos) (cl g fs):=by
 unfold cj at hn
 rw [Bool.and_eq_true]at hn
 exact q_callB hc hm hv ha hg h1 h2 (bf hn.1) (star_any hn.2)
theorem q_cT {Ty:String}{g:List T->Rs T}(hc:CallT X (.type Ty) g)(hm:X.mg x=none)(hv:bootBuiltins x=some (.type Ty))(ha:PAt X (e::es) fs)(hn:cj (e::es)=true:=by rfl)(hg:Gl X x:=by rfl)(h1:x≠ "__name__":=by decide)(h2:(x == ("__debug__" : Str))=false:=by decide) :
  bZ X (.Call (.Name x p) (e::es) [] pos) (cl g fs):=by
 unfold cj at hn
 rw [Bool.and_eq_true]at hn
 exact q_callTy hc hm hv ha hg h1 h2 (bf hn.1) (star_any hn.2)
theorem q_c {n k:Nat}{f:Addr}{fd:FuncData}{ps:List Str}{g:List T->Rs T}(F:FnB X.prog X.w X.K X.mg X.base k f fd ps n g)(hr:Room k X.A)(hm:X.mg x=some (.ref f))(hk:PySem.W.keepIn X.K (.ref f)=true)(hb:Binds X.K fd ps [])
  (hl:∀ ρ ts,fs ρ= .ok ts->ts.length=n) (ha:PAt X (e::es) fs) (hps:ps.length=n:=by rfl) (hn:cj (e::es)=true:=by rfl) (hg:Gl X x:=by rfl) (h2:(x == ("__debug__" : Str))=false:=by decide):bZ X (.Call (.Name x p) (e::es) [] pos) (cl g fs):=by
 unfold cj at hn
 rw [Bool.and_eq_true]at hn
 exact q_call F hr hm hk hb hps hl ha hg h2 (bf hn.1) (star_any hn.2)
theorem q_is {tn:Str}{Ty:String}(hm:X.mg "isinstance" =none)(hmt:X.mg tn=none)(hv:bootBuiltins tn=some (.type Ty))(ha:bZ X a fa)(hn:bo a=true:=by rfl)(hg:Gl X "isinstance":=by rfl)(hgt:Gl X tn:=by rfl)
  (h1:tn≠ "__name__":=by decide) (h2:(tn == ("__debug__" : Str))=false:=by decide):bZ X (.Call (.Name "isinstance" p) [a,.Name tn p2] [] pos) (o1 (isT Ty) fa):=
 q_isi hm hmt hv ha hg hgt h1 h2 (bf hn) (star_any rfl) (bf rfl)
end
theorem aLen0 (ρ:En)(ts:List T)(h:ah ρ= .ok ts):ts.length=0:=by cases h;rfl
theorem aLenS {n:Nat}{f:En->Rs T}{g:En->Rs (List T)}(hg:∀ ρ ts,g ρ= .ok ts->ts.length=n)(ρ:En)(ts:List T)(h:ac f g ρ= .ok ts):ts.length=n+1:=by
 unfold ac at h
 cases q:f ρ with
 | bad=>rw [q]at h;cases h
 | err c=>rw [q]at h;cases h
 | ok t=>
  rw [q,aD]at h
  cases q2:g ρ with
  | bad=>rw [q2]at h;cases h
  | err c=>rw [q2]at h;cases h
  | ok r=>
   rw [q2,aD]at h
   cases h
   rw [List.length_cons,hg ρ r q2]
theorem hu60 {k:Nat}{A:Around}(h:Room k A):A.units+60<cLine:=by have:=h.un;omega
theorem hu61 {k:Nat}{A:Around}(h:Room k A):A.units+61<cLine:=by have:=h.un;omega
structure Fn (K:PySem.W.Frag)(mg:Str->Option Value)(x:Str)(st:Stmt)(ps:List Str)(f:Addr)(fd:FuncData):Prop where
 fn:L2.Fun K x x st f fd
 bd:Binds K fd ps []
 mg:mg x=some (.ref f)
def val (n m:Nat)(F:En->Rs Fl)(ts:List T):Rs T:=if ts.length=n then c9 F (bc m ts)else .bad
theorem val_ok {n m:Nat}{F:En->Rs Fl}{ts:List T}{t:T}(h:val n m F ts= .ok t):c9 F (bc m ts)= .ok t:=by
 unfold val at h
 split at h
 ·exact h
 ·cases h
theorem sp_script {K:PySem.W.Frag}{H:Hp}{a:Addr}{ns:List Int}{g:List T->Rs T}{E:XK}(hS:SqL K H a (ns.map V.int))(h:g [.scr ns] = .ok (.bl true)):spP K 1 g [.ref a] H (fun v _=>v= .bl true) E:=by
 refine⟨[.scr ns],fun _=>False,Reps.cons_ ?_ Reps.nil_,fun _ z=>z.elim,rfl,?_⟩
 ·unfold Rep;exact⟨a,rfl,fun z=>z,hS⟩
 ·rw [h];exact fun v H' _ r=>Rep.bl_iff.mp r
theorem set_self {α:Type}{l:List α}{i:Nat}{z:α}(h:l[i]? =some z):l.set i z=l:=by
 obtain⟨hi,rfl⟩:=List.getElem?_eq_some_iff.mp h
 exact List.set_getElem_self hi
def Mn.set (M:Mn)(i:Nat)(m:Ow):Mn:=fun j=>if j=i then m else M j
theorem Mn.set_u {M:Mn}{i:Nat}{m:Ow}{a:Addr}(h:(M.set i m).u a):m a\/M.u a:=by
 obtain⟨j,h⟩:=h
 unfold Mn.set at h
 by_cases z:j=i
 ·rw [if_pos z]at h;exact .inl h
 ·rw [if_neg z]at h;exact .inr ⟨j,h⟩
theorem Mn.set_at {M:Mn}{i:Nat}{m:Ow}:M.set i m i=m:=by unfold Mn.set;rw [if_pos rfl]
theorem Mn.set_ne {M:Mn}{i j:Nat}{m:Ow}(h:j≠i):M.set i m j=M j:=by unfold Mn.set;rw [if_neg h]
theorem RowsR.move {K:PySem.W.Frag}{O O' P:Ow}{H H':Hp}(hP:∀ a,P a->O a\/Nw K H a)(hO:∀ a,O' a->O a\/Nw K H a)(h:SameO P H H'):∀ {rs:List (List T×List T)} {as:List Addr},(∀b∈as,¬P b)->RowsR K O H rs as->RowsR K O' H' rs as
 | [],_,_,r=>r
 | _::_,_,hb,⟨b,bs,kvs,e1,e2,e3,e4,e5⟩=>by
  subst e1
  exact⟨b,bs,kvs,rfl,h _ _ e2 (hb b List.mem_cons_self),e3,e4.move hP hO h,e5.move hP hO h fun c hc=>hb c (List.mem_cons_of_mem _ hc)⟩
theorem ORep.move {K:PySem.W.Frag}{O O' P M:Ow}{H H':Hp}{o:OT}{v:V}(hP:∀ a,P a->O a\/Nw K H a)(hO:∀ a,O' a->O a\/Nw K H a)(h:SameO P H H')(hM:∀ a,M a->¬ P a)(r:ORep K O M H o v):ORep K O' M H' o v:=by
 cases o with
 | lst l=>obtain⟨a,vs,e1,e2,e3,e4⟩:=r;exact⟨a,vs,e1,e2,h _ _ e3 (hM a ((e2 a).mpr rfl)),e4.move hP hO h⟩
 | dct ks ts=>obtain⟨a,kvs,e1,e2,e3,e4,e5⟩:=r;exact⟨a,kvs,e1,e2,h _ _ e3 (hM a ((e2 a).mpr rfl)),e4,e5.move hP hO h⟩
 | dd ks rows=>
  obtain⟨a,kvs,as,e1,e2,e3,e4,e5,e6,e7,e8⟩:=r
  exact⟨a,kvs,as,e1,e2,e3,e4,h _ _ e5 (hM a ((e2 a).mpr (.inl rfl))),e6,e7,e8.move hP hO h fun b hb=>hM b ((e2 b).mpr (.inr hb))⟩
theorem RowsR.mtb {K:PySem.W.Frag}{O:Ow}{H:Hp}:∀ {rs:List (List T×List T)} {as:List Addr},RowsR K O H rs as->∀ b∈as,∃kvs,H b=some (.dT kvs)
 | [],_,r,b,hb=>by unfold RowsR at r;subst r;simp at hb
 | _::_,_,⟨b0,bs,kvs,e1,e2,e3,e4,e5⟩,b,hb=>by
  subst e1
  rcases List.mem_cons.mp hb with rfl | hb
  ·exact⟨kvs,e2⟩
  ·exact e5.mtb b hb
def OT.isD:OT->Bool
 | .lst _=>false
 | _=>true
theorem ORep.kind {K:PySem.W.Frag}{O M:Ow}{H:Hp}{o:OT}{v:V}(r:ORep K O M H o v):∀ a,M a->if o.isD then ∃kvs,H a=some (.dT kvs)else ∃vs,H a=some (.lst vs):=fun a z=>by
 cases o with
 | lst l=>obtain⟨b,vs,e1,e2,e3,e4⟩:=r;cases (e2 a).mp z;exact⟨vs,e3⟩
 | dct ks ts=>obtain⟨b,kvs,e1,e2,e3,e4,e5⟩:=r;cases (e2 a).mp z;exact⟨kvs,e3⟩
 | dd ks rows=>
  obtain⟨b,kvs,as,e1,e2,e3,e4,e5,e6,e7,e8⟩:=r
  rcases(e2 a).mp z with z | z
  ·cases z;exact⟨kvs,e5⟩
  ·exact e8.mtb a z
theorem ORep.mtb {K:PySem.W.Frag}{O M:Ow}{H:Hp}{o:OT}{v:V}(r:ORep K O M H o v)(a:Addr)(z:M a):Mtb H a:=by
 have:=r.kind a z
 split at this
 ·exact .inr this
 ·exact .inl this
theorem rows_rep {K:PySem.W.Frag}{O:Ow}{H:Hp}:∀ {rs:List (List T×List T)} {as:List Addr},(∀b∈as,¬O b)->RowsR K O H rs as->Reps K O H (rs.map fun r=>T.dct r.1 r.2) (as.map V.ref)
 | [],_,_,r=>by unfold RowsR at r;subst r;exact Reps.nil_
 | _::_,_,hn,⟨b,bs,kvs,e1,e2,e3,e4,e5⟩=>by
  subst e1
  exact Reps.cons_ (Rep.dct_iff.mpr ⟨b,kvs,rfl,hn b List.mem_cons_self,e2,e3,e4⟩) (rows_rep (fun c hc=>hn c (List.mem_cons_of_mem _ hc)) e5)
theorem RowsR.less {K:PySem.W.Frag}{O O':Ow}{H:Hp}(sub:∀ a,O' a->O a):∀ {rs:List (List T×List T)} {as:List Addr},RowsR K O H rs as->RowsR K O' H rs as
 | [],_,r=>r
 | _::_,_,⟨b,bs,kvs,e1,e2,e3,e4,e5⟩=>⟨b,bs,kvs,e1,e2,e3,e4.less sub,e5.less sub⟩
theorem ORep.rep {K:PySem.W.Frag}{O O' M:Ow}{H:Hp}{o:OT}{v:V}(sub:∀ a,O' a->O a)(hn:∀ a,M a->¬ O' a)(r:ORep K O M H o v):Rep K O' H o.view v:=by
 cases o with
 | lst l=>obtain⟨a,vs,e1,e2,e3,e4⟩:=r;exact Rep.lst_iff.mpr ⟨a,vs,e1,hn a ((e2 a).mpr rfl),e3,e4.less sub⟩
 | dct ks ts=>obtain⟨a,kvs,e1,e2,e3,e4,e5⟩:=r;exact Rep.dct_iff.mpr ⟨a,kvs,e1,hn a ((e2 a).mpr rfl),e3,e4,e5.less sub⟩
 | dd ks rows=>
  obtain⟨a,kvs,as,e1,e2,e3,e4,e5,e6,e7,e8⟩:=r
  refine Rep.dct_iff.mpr ⟨a,kvs,e1,hn a ((e2 a).mpr (.inl rfl)),e5,e6,?_⟩
  rw [e7]
  exact rows_rep (fun b hb=>hn b ((e2 b).mpr (.inr hb))) (e8.less sub)
section
variable {K:PySem.W.Frag}{B:Ow}{M:Mn}{H H':Hp}{ρ:En}{σ:L2.St}{i:Nat}{o o':OT}{v:V}{m:Ow}
theorem Ev.new (E:Ev K B M H ρ σ)(hl:i<ρ.length)(hm:∀ a,m a->Nw K H a)(s:Same H H')(r:ORep K (OO B (M.set i m)) m H' o v) :
  Ev K B (M.set i m) H' (ρ.set i (.ow o)) (σ.set i (some v))/\∀ a,(M.set i m).u a->M.u a\/Nw K H a:=by
 have hls:i<σ.length:=by rw [<-E.env.len];exact hl
 have sub:∀ a,(M.set i m).u a->M.u a\/Nw K H a:=fun a z=>(Mn.set_u z).elim (fun w=> .inr (hm a w)) .inl
 have subO:∀ a,OO B (M.set i m) a->OO B M a\/Nw K H a:=fun a z=>z.elim (fun w=> .inl (.inl w)) fun w=>(sub a w).elim (fun y=> .inl (.inr y)) .inr
 have dM:∀ a,Nw K H a->¬ OO B M a:=fun a w z=>by
  obtain⟨o,e⟩:=(E.env.trk a z).some
  rw [w.1]at e;cases e
 refine⟨⟨⟨by rw [List.length_set,List.length_set];exact E.env.len,fun j t e=> ?_,fun j o' e=> ?_,fun j a z=> .inr ⟨j,z⟩,fun j k a z1 z2=> ?_,fun a z=> ?_⟩,fun a z=> ?_⟩,sub⟩
 ·by_cases hj:i=j
  ·subst hj;rw [List.getElem?_set_self hl]at e;cases e
  ·rw [List.getElem?_set_ne hj]at e
   obtain⟨w,e1,e2⟩:=E.env.val j t e
   exact⟨w,by rw [List.getElem?_set_ne hj];exact e1,(e2.more subO).same s⟩
 ·by_cases hj:i=j
  ·subst hj
   rw [List.getElem?_set_self hl]at e
   cases e
   exact⟨v,List.getElem?_set_self hls,by rw [Mn.set_at];exact r⟩
  ·rw [List.getElem?_set_ne hj]at e
   obtain⟨w,e1,e2⟩:=E.env.own j o' e
   refine⟨w,by rw [List.getElem?_set_ne hj];exact e1,?_⟩
   rw [Mn.set_ne (fun z=>hj z.symm)]
   exact(e2.move (P:=no_) (fun _ z=>z.elim) subO (fun b u q _=>q) fun _ _ z=>z).same s
 ·unfold Mn.set at z1 z2
  by_cases hj:j=i
  ·by_cases hk:k=i
   ·exact hj.trans hk.symm
   ·rw [if_pos hj]at z1;rw [if_neg hk]at z2
    exact(dM a (hm a z1) (.inr ⟨k,z2⟩)).elim
  ·by_cases hk:k=i
   ·rw [if_neg hj]at z1;rw [if_pos hk]at z2
    exact(dM a (hm a z2) (.inr ⟨j,z1⟩)).elim
   ·rw [if_neg hj]at z1;rw [if_neg hk]at z2
    exact E.env.dis j k a z1 z2
 ·rcases z with z | z
  ·exact(E.env.trk a (.inl z)).same s
  ·rcases Mn.set_u z with w | w
   ·exact r.mtb a w
   ·exact(E.env.trk a (.inr w)).same s
 ·intro hb
  rcases Mn.set_u z with w | w
  ·exact dM a (hm a w) (.inl hb)
  ·exact E.mine a w hb
theorem Ev.put (E:Ev K B M H ρ σ)(hi:ρ[i]? =some (.ow o))(hs:σ[i]? =some (some v))(s:SameO (M i) H H')(r:ORep K (OO B M) (M i) H' o' v):Ev K B M H' (ρ.set i (.ow o')) σ/\SameO M.u H H':=by
 have hl:i<ρ.length:=(List.getElem?_eq_some_iff.mp hi).1
 have inO:∀ a,M i a->OO B M a\/Nw K H a:=fun a z=> .inl (.inr ⟨i,z⟩)
 have idO:∀ a,OO B M a->OO B M a\/Nw K H a:=fun a z=> .inl z
 refine⟨⟨⟨by rw [List.length_set];exact E.env.len,fun j t e=> ?_,fun j o2 e=> ?_,E.env.sub,E.env.dis,fun a z=> ?_⟩,E.mine⟩,fun b u e n=>s b u e fun z=>n ⟨i,z⟩⟩
 ·by_cases hj:i=j
  ·subst hj;rw [List.getElem?_set_self hl]at e;cases e
  ·rw [List.getElem?_set_ne hj]at e
   obtain⟨w,e1,e2⟩:=E.env.val j t e
   exact⟨w,e1,e2.move inO idO s⟩
 ·by_cases hj:i=j
  ·subst hj
   rw [List.getElem?_set_self hl]at e
   cases e
   exact⟨v,hs,r⟩
  ·rw [List.getElem?_set_ne hj]at e
   obtain⟨w,e1,e2⟩:=E.env.own j o2 e
   exact⟨w,e1,e2.move inO idO s fun a z y=>hj (E.env.dis i j a y z)⟩
 ·by_cases hz:M i a
  ·exact r.mtb a hz
  ·rcases E.env.trk a z with⟨vs,e⟩ | ⟨kvs,e⟩
   ·exact .inl ⟨vs,s _ _ e hz⟩
   ·exact .inr ⟨kvs,s _ _ e hz⟩
def disown (i:Nat)(ρ:En):En:=match ρ[i]? with
 | some (.ow o)=>ρ.set i (.va o.view)
 | _=>ρ
theorem EnvM.disown {O O':Ow}{ρ:En}(E:EnvM K O M H ρ σ)(i:Nat)(sub:∀ a,O' a->O a)(hn:∀ a,M i a->¬ O' a)(hin:∀ j a,j≠i->M j a->O' a):EnvM K O' (M.set i no_) H (disown i ρ) σ:=by
 have base:EnvM K O' (M.set i no_) H (ρ.set i (match ρ[i]? with | some (.ow o)=> .va o.view | some x=>x | none=> .em)) σ:=by
  refine⟨by rw [List.length_set];exact E.len,fun j t e=> ?_,fun j o e=> ?_,fun j a z=> ?_,fun j k a z1 z2=> ?_,fun a z=>E.trk a (sub a z)⟩
  ·by_cases hj:i=j
   ·subst hj
    by_cases hl:i<ρ.length
    ·rw [List.getElem?_set_self hl]at e
     cases q:ρ[i]? with
     | none=>rw [q]at e;cases e
     | some z=>
      rw [q]at e
      cases z with
      | em=>cases e
      | va t'=>cases e;obtain⟨w,e1,e2⟩:=E.val i _ q;exact⟨w,e1,e2.less sub⟩
      | ow o=>cases e;obtain⟨w,e1,e2⟩:=E.own i _ q;exact⟨w,e1,e2.rep sub hn⟩
    ·rw [List.getElem?_eq_none (by rw [List.length_set];omega)]at e;cases e
   ·rw [List.getElem?_set_ne hj]at e
    obtain⟨w,e1,e2⟩:=E.val j t e
    exact⟨w,e1,e2.less sub⟩
  ·by_cases hj:i=j
   ·subst hj
    by_cases hl:i<ρ.length
    ·rw [List.getElem?_set_self hl]at e
     cases q:ρ[i]? with
     | none=>rw [q]at e;cases e
     | some z=>
      rw [q]at e
      cases z with
      | em=>cases e
      | va t'=>cases e
      | ow o=>cases e
    ·rw [List.getElem?_eq_none (by rw [List.length_set];omega)]at e;cases e
   ·rw [List.getElem?_set_ne hj]at e
    obtain⟨w,e1,e2⟩:=E.own j o e
    refine⟨w,e1,?_⟩
    rw [Mn.set_ne (fun z=>hj z.symm)]
    exact e2.move (P:=no_) (fun _ z=>z.elim) (fun a z=> .inl (sub a z)) (fun b u q _=>q) fun _ _ z=>z
  ·unfold Mn.set at z
   by_cases hj:j=i
   ·rw [if_pos hj]at z;exact z.elim
   ·rw [if_neg hj]at z;exact hin j a hj z
  ·unfold Mn.set at z1 z2
   by_cases hj:j=i
   ·rw [if_pos hj]at z1;exact z1.elim
   ·by_cases hk:k=i
    ·rw [if_pos hk]at z2;exact z2.elim
    ·rw [if_neg hj]at z1;rw [if_neg hk]at z2;exact E.dis j k a z1 z2
 unfold Tr.disown
 cases q:ρ[i]? with
 | none=>rw [q,List.set_eq_of_length_le (List.getElem?_eq_none_iff.mp q)]at base;exact base
 | some z=>
  rw [q]at base
  cases z with
  | em=>rw [set_self q]at base;exact base
  | va t=>rw [set_self q]at base;exact base
  | ow o=>exact base
theorem Ev.disown (E:Ev K B M H ρ σ)(i:Nat):Ev K B (M.set i no_) H (disown i ρ) σ/\∀ a,(M.set i no_).u a->M.u a:=by
 have sub:∀ a,(M.set i no_).u a->M.u a:=fun a z=>(Mn.set_u z).elim (fun w=>w.elim) id
 refine⟨⟨E.env.disown i (fun a z=>z.elim .inl fun w=> .inr (sub a w)) (fun a z y=> ?_) fun j a hj z=> .inr ⟨j,by rw [Mn.set_ne hj];exact z⟩,fun a z=>E.mine a (sub a z)⟩,sub⟩
 rcases y with y | ⟨j,y⟩
 ·exact E.mine a ⟨i,z⟩ y
 ·unfold Mn.set at y
  by_cases hj:j=i
  ·rw [if_pos hj]at y;exact y
  ·rw [if_neg hj]at y;exact hj (E.env.dis j i a y z)
end
section
variable {X:Cx}{a:Expr}{es:List Expr}{fa:En->Rs T}{pos p2 p3:Pos}{x:Str}
theorem Ev.subO {K:PySem.W.Frag}{B:Ow}{M:Mn}{H:Hp}{i:Nat}{m:Ow}(hm:∀ a,m a->Nw K H a)(a:Addr)(z:OO B (M.set i m) a):OO B M a\/Nw K H a:=
 z.elim (fun w=> .inl (.inl w)) fun w=>(Mn.set_u w).elim (fun y=> .inr (hm a y)) fun y=> .inl (.inr y)
theorem nw_same {K:PySem.W.Frag}{H H1:Hp}(s:Same H H1){a:Addr}(n:Nw K H1 a):Nw K H a:=(gA (SameO.of (P:=no_) s) n).elim (fun z=>z.elim) id
def tLstN (X:Cx)(t:TA):TE:=fun σ H Q=>t σ H fun xs H1=>xs.length<=sizeLine/\∀ p,Nw X.K H1 p->Q (.ref p) (upd H1 p (.lst xs))
theorem pe_lstN {t:TA}(h:PA X es t):PE X (.List es pos) (tLstN X t):=by
 intro pins s σ H Q I hq
 refine wpAny_List_spliced (bK (h pos pins s σ H _ I hq) fun us s1 ⟨xs,H1,I1,r,z,q⟩=>⟨by rw [<-r.length];exact z,?_⟩)
 have hf:H1 s1.heap.objs.size=none:=I1.hok.fresh (Nat.le_refl _)
 have hk:X.K.lookup s1.heap.objs.size=none:=by
  cases q:X.K.lookup s1.heap.objs.size with
  | none=>rfl
  | some o=>exact absurd (Heap.lt_size (I1.kIn _ o q)) (Nat.lt_irrefl _)
 refine⟨.ref s1.heap.objs.size,upd H1 s1.heap.objs.size (.lst xs),I1.laid (t':=s1.toks) (fun b u e=>Heap.get?_push_of_some _ e) (Nat.le_refl _) ?_,rfl,q _ ⟨hf,hk⟩⟩
 exact⟨z,us,0,r,Heap.get?_push_size _ rfl⟩
def sNewL (i:Nat)(f:En->Rs (List T))(ρ:En):Rs Fl:=do
 let l <-f ρ
 if i<ρ.length/\l.length<=sizeLine then .ok (.nx (ρ.set i (.ow (.lst l))))else .bad
theorem qs_newL (i:Nat){f:En->Rs (List T)}(hN:X.N.Nodup)(ha:PAt X es f)(hi:X.N[i]? =some x:=by rfl)(hx:Loc X.env.scope x:=by first | exact Or.inl rfl | exact Or.inr rfl)(hs:swapsWith (.List es p2) (some (.Name x p3)) pos.line X.env=pure false:=by rfl)
  (hf:X.fn x=true\/X.env.scope.names.lookup x=some .local:=by first | exact .inl rfl | exact .inr rfl | assumption):PSt X (.Assign [.Name x p3] (.List es p2) pos) (sNewL i f):=PS.imp (ps_set hN hi hx (pe_lstN ha) hs hf) fun D σ H hh_=>by
 obtain⟨ρ,B,M,E,h⟩:=hh_
 refine⟨ρ,OO B M,E.o,?_⟩
 unfold sNewL at h
 cases q:f ρ with
 | bad=>rw [q]at h;exact h.elim
 | err c=>rw [q]at h;exact PostF.xa h
 | ok l=>
  rw [q,aD]at h
  intro H1 s1 vs rs
  by_cases hl:i<ρ.length/\l.length<=sizeLine
  ·rw [if_pos hl]at h
   refine⟨by rw [<-rs.length];exact hl.2,fun p hp=> ?_⟩
   have hm:∀ a,a=p->Nw X.K H1 a:=fun a z=>z▸hp
   obtain⟨E2,sub⟩:=(E.same s1).new (m:=fun a=>a=p) (o:=.lst l) (v:=.ref p) (H':=upd H1 p (.lst vs)) hl.1 hm (aS hp.1 _) ⟨p,vs,rfl,fun b=>Iff.rfl,aG,(rs.more (Ev.subO hm)).same (aS hp.1 _)⟩
   exact h _ _ _ (SameO.of (s1.trans (aS hp.1 _))) E2 fun a z=>(sub a z).imp_right (nw_same s1)
  ·rw [if_neg hl]at h
   exact h.elim
def sApp (i:Nat)(f:En->Rs T)(ρ:En):Rs Fl:=match ρ[i]? with
 | some (.ow (.lst l))=>f ρ >>= fun t=>if l.length<sizeLine then .ok (.nx (ρ.set i (.ow (.lst (l++ [t])))))else .bad
 | _=> .bad
theorem Ev.putL {K:PySem.W.Frag}{B:Ow}{M:Mn}{H:Hp}{ρ:En}{σ:L2.St}{i:Nat}{o:OT}{l':List T}{b:Addr}{vs':List V}(E:Ev K B M H ρ σ)(hi:ρ[i]? =some (.ow o))(hs:σ[i]? =some (some (.ref b)))(hM:∀ c,M i c↔c=b)(r:Reps K (OO B M) H l' vs') :
  Ev K B M (upd H b (.lst vs')) (ρ.set i (.ow (.lst l'))) σ/\SameO M.u H (upd H b (.lst vs')):=by
 have sm:SameO (M i) H (upd H b (.lst vs')):=fun c u e nb=>by rw [aA (fun z=>nb ((hM c).mpr z))];exact e
 exact E.put hi hs sm ⟨b,vs',rfl,hM,aG,r.move (P:=M i) (fun a z=> .inl (.inr ⟨i,z⟩)) (fun a z=> .inl z) sm⟩
theorem qs_app (i:Nat){apos cpos:Pos}(ha:bZ X a fa)(hN:X.N[i]? =some x:=by rfl)(hv:Vis X.env.scope x:=by first | exact Or.inl rfl | exact Or.inr (Or.inl rfl) | exact Or.inr (Or.inr rfl))(hn:bo a=true:=by rfl)
  (hbase:attributeBase (.Name x p2) "append" X.env (eval (.Name x p2) X.env)=eval (.Name x p2) X.env:=by rfl) (hline:(apos.endLine == cpos.line)=true:=by rfl)
  (hd:(x == ("__debug__" : Str))=false:=by decide) (hcd:(x == ("__classdict__" : Str))=false:=by decide)
  (hsw:swapsWith (.Call (.Attribute (.Name x p2) "append" apos) [a] [] cpos) none pos.line X.env=pure false:=by rfl):PSt X (.Expr (.Call (.Attribute (.Name x p2) "append" apos) [a] [] cpos) pos) (sApp i fa):=by
 have h1:starEach [a] X.env=(false,eval a X.env)::starEach [] X.env:=bf hn
 refine PS.imp (ps_expr (pe_bm PySem.F.plainAttrs_list PySem.F.slot_list_append PySem.F.type_list_append mt_append (gy hN hv hd hcd) (a6 ha db h1) hbase ?_ hline h1 rfl) hsw) fun D σ H ⟨ρ,B,M,E,h⟩=> ?_
 ·rw [h1];rfl
 unfold sApp at h
 split at h
 ·rename_i l hl
  obtain⟨v0,e1,b,vs,rfl,hM,e3,e4⟩:=E.env.own i _ hl
  refine⟨.ref b,e1,.inl ⟨rfl,vs,SqL.of e3⟩,ρ,OO B M,E.o,?_⟩
  cases q:fa ρ with
  | bad=>rw [q]at h;exact h.elim
  | err c=>rw [q]at h;exact PostF.xa h
  | ok t=>
   rw [q,aD]at h
   split at h
   ·rename_i hz
    intro H1 s1 v r
    have e3':=s1 _ _ e3
    refine⟨b,vs,v,rfl,rfl,e3',by rw [<-e4.length];exact hz,?_⟩
    obtain⟨g1,g2⟩:=(E.same s1).putL (l':=l++ [t]) (vs':=vs++ [v]) hl e1 hM ((e4.same s1).append (Reps.cons_ r Reps.nil_))
    exact h σ _ M (fun c o e nb=>g2 c o (s1 _ _ e) nb) g1 fun c z=> .inl z
   ·exact h.elim
 ·exact h.elim
def extL (i:Nat)(l:List T)(ρ:En):T->Rs Fl
 | .lst m=>if l.length+m.length<=sizeLine then .ok (.nx (ρ.set i (.ow (.lst (l++m)))))else .bad
 | _=> .bad
def sExt (i:Nat)(f:En->Rs T)(ρ:En):Rs Fl:=match ρ[i]? with
 | some (.ow (.lst l))=>f ρ >>= extL i l ρ
 | _=> .bad
theorem qs_ext (i:Nat){apos cpos:Pos}(ha:bZ X a fa)(hN:X.N[i]? =some x:=by rfl)(hv:Vis X.env.scope x:=by first | exact Or.inl rfl | exact Or.inr (Or.inl rfl) | exact Or.inr (Or.inr rfl))(hn:bo a=true:=by rfl)
  (hbase:attributeBase (.Name x p2) "extend" X.env (eval (.Name x p2) X.env)=eval (.Name x p2) X.env:=by rfl) (hline:(apos.endLine == cpos.line)=true:=by rfl)
  (hd:(x == ("__debug__" : Str))=false:=by decide) (hcd:(x == ("__classdict__" : Str))=false:=by decide)
  (hsw:swapsWith (.Call (.Attribute (.Name x p2) "extend" apos) [a] [] cpos) none pos.line X.env=pure false:=by rfl):PSt X (.Expr (.Call (.Attribute (.Name x p2) "extend" apos) [a] [] cpos) pos) (sExt i fa):=by
 have h1:starEach [a] X.env=(false,eval a X.env)::starEach [] X.env:=bf hn
 refine PS.imp (ps_expr (pe_bm PySem.F.plainAttrs_list PySem.F.slot_list_extend PySem.F.type_list_extend mt_extend (gy hN hv hd hcd) (a6 ha db h1) hbase ?_ hline h1 rfl) hsw) fun D σ H ⟨ρ,B,M,E,h⟩=> ?_
 ·rw [h1];rfl
 unfold sExt at h
 split at h
 ·rename_i l hl
  obtain⟨v0,e1,b,vs,rfl,hM,e3,e4⟩:=E.env.own i _ hl
  refine⟨.ref b,e1,.inl ⟨rfl,vs,SqL.of e3⟩,ρ,OO B M,E.o,?_⟩
  cases q:fa ρ with
  | bad=>rw [q]at h;exact h.elim
  | err c=>rw [q]at h;exact PostF.xa h
  | ok t=>
   rw [q,aD]at h
   unfold extL at h
   split at h
   ·rename_i m
    split at h
    ·rename_i hz
     intro H1 s1 v r
     obtain⟨c,ws,rfl,nO,hc,rm⟩:=Rep.lst_iff.mp r
     have e3':=s1 _ _ e3
     refine⟨b,c,vs,ws,rfl,rfl,e3',hc,by rw [<-e4.length,<-rm.length];exact hz,?_⟩
     obtain⟨g1,g2⟩:=(E.same s1).putL (l':=l++m) (vs':=vs++ws) hl e1 hM ((e4.same s1).append rm)
     exact h σ _ M (fun c o e nb=>g2 c o (s1 _ _ e) nb) g1 fun c z=> .inl z
    ·exact h.elim
   ·exact h.elim
 ·exact h.elim
def sDis (i:Nat)(F:En->Rs Fl)(ρ:En):Rs Fl:=F (disown i ρ)
theorem qs_dis (i:Nat){st:Stmt}{F:En->Rs Fl}(h:PSt X st F):PSt X st (sDis i F):=PS.imp h fun D σ H hh_=>by
 obtain⟨ρ,B,M,E,q⟩:=hh_
 obtain⟨E',sub⟩:=E.disown i
 exact⟨disown i ρ,B,_,E',PostF.later q (fun _ _ e _=>e) fun a z=> .inl (sub a z)⟩
mutual
def T.nk (D:Bool):T->Bool
 | .scr _=>false
 | .dct _ ts=> !D&&nks D ts
 | .lst l=>D&&nks D l
 | .tup l=>nks D l
 | _=>true
def nks (D:Bool):List T->Bool
 | [] =>true
 | t::l=>t.nk D&&nks D l
end
mutual
theorem Rep.lend {K:PySem.W.Frag}{O O':Ow}{H:Hp}{D:Bool}(hk:∀ a,O a->O' a\/if D then ∃kvs,H a=some (.dT kvs)else ∃vs,H a=some (.lst vs)):∀ {t:T} {v:V},t.nk D=true->Rep K O' H t v->Rep K O H t v
 | .non,_,_,r=>by unfold Rep at r ⊢;exact r
 | .bl _,_,_,r=>by unfold Rep at r ⊢;exact r
 | .int _,_,_,r=>by unfold Rep at r ⊢;exact r
 | .str _,_,_,r=>by unfold Rep at r ⊢;exact r
 | .tup l,_,h,r=>by
  unfold Rep at r ⊢
  unfold T.nk at h
  obtain⟨a,vs,e,n,q,z⟩:=r
  refine⟨a,vs,e,fun p=>(hk a p).elim n fun w=> ?_,q,Reps.lend hk h z⟩
  split at w <;> (obtain⟨_,w⟩:=w;rw [q]at w;cases w)
 | .lst l,_,h,r=>by
  unfold Rep at r ⊢
  unfold T.nk at h
  rw [Bool.and_eq_true]at h
  obtain⟨h1,h2⟩:=h
  subst h1
  obtain⟨a,vs,e,n,q,z⟩:=r
  refine⟨a,vs,e,fun p=>(hk a p).elim n fun w=> ?_,q,Reps.lend hk h2 z⟩
  rw [if_pos rfl]at w;obtain⟨_,w⟩:=w;rw [q]at w;cases w
 | .scr l,_,h,r=>by unfold T.nk at h;cases h
 | .dct ks ts,_,h,r=>by
  unfold Rep at r ⊢
  unfold T.nk at h
  rw [Bool.and_eq_true]at h
  obtain⟨h1,h2⟩:=h
  cases D with
  | true=>cases h1
  | false=>
   obtain⟨a,kvs,e,n,q,k,z⟩:=r
   refine⟨a,kvs,e,fun p=>(hk a p).elim n fun w=> ?_,q,k,Reps.lend hk h2 z⟩
   rw [if_neg Bool.false_ne_true]at w;obtain⟨_,w⟩:=w;rw [q]at w;cases w
theorem Reps.lend {K:PySem.W.Frag}{O O':Ow}{H:Hp}{D:Bool}(hk:∀ a,O a->O' a\/if D then ∃kvs,H a=some (.dT kvs)else ∃vs,H a=some (.lst vs)):∀ {l:List T} {vs:List V},nks D l=true->Reps K O' H l vs->Reps K O H l vs
 | [],_,_,r=>by unfold Reps at r ⊢;exact r
 | t::l,_,h,r=>by
  unfold Reps at r ⊢
  unfold nks at h
  rw [Bool.and_eq_true]at h
  obtain⟨v,ws,e,p,q⟩:=r
  exact⟨v,ws,e,Rep.lend hk h.1 p,Reps.lend hk h.2 q⟩
end
def ln (i:Nat)(f:En->Rs T)(ρ:En):Rs T:=match ρ[i]? with
 | some (.ow o)=>f (disown i ρ) >>= fun t=>if t.nk o.isD=true then .ok t else .bad
 | _=>f ρ
def lnB (i:Nat)(f:En->Rs Bool)(ρ:En):Rs Bool:=f (disown i ρ)
theorem EnvM_lent {K:PySem.W.Frag}{O:Ow}{M:Mn}{H:Hp}{ρ:En}{σ:L2.St}(E:EnvM K O M H ρ σ)(i:Nat):EnvM K (fun a=>O a/\¬ M i a) (M.set i no_) H (disown i ρ) σ:=
 E.disown i (fun a z=>z.1) (fun a z y=>y.2 z) fun j a hj z=>⟨E.sub j a z,fun y=>hj (E.dis j i a z y)⟩
theorem q_ln (i:Nat){e:Expr}{f:En->Rs T}(h:bZ X e f):bZ X e (ln i f):=PE.imp h fun σ H Q ⟨ρ,O,⟨M,E⟩,q⟩=>by
 unfold ln at q
 split at q
 ·rename_i o hi
  refine⟨disown i ρ,_,⟨_,EnvM_lent E i⟩,?_⟩
  obtain⟨w,e1,r⟩:=E.own i o hi
  refine Post.mono (Post.bind q) fun t H' s q2 v rv=> ?_
  split at q2
  ·rename_i hk
   have kd:=(r.same s).kind
   refine q2 H' (Same.refl _) v (Rep.lend (fun a z=> ?_) hk rv)
   by_cases hm:M i a
   ·exact .inr (kd a hm)
   ·exact .inl ⟨z,hm⟩
  ·exact q2.elim
 ·exact⟨ρ,O,⟨M,E⟩,q⟩
theorem qt_ln (i:Nat){e:Expr}{f:En->Rs Bool}(h:PTt X e f):PTt X e (lnB i f):=PT.imp h fun σ H Q ⟨ρ,O,⟨M,E⟩,q⟩=>⟨disown i ρ,_,⟨_,EnvM_lent E i⟩,q⟩
end
end Tr
namespace Tr
open PySem L2
def dget:List T->List T->List Key->Option T
 | k'::ks,v::vs,k=>if aR k'=some k then some v else dget ks vs k
 | _,_,_=>none
def fT (k v:T):List T->List T->List T×List T
 | k'::ks,v'::vs=>if aR k'=aR k then(k'::ks,v::vs)else(k'::(fT k v ks vs).1,v'::(fT k v ks vs).2)
 | _,_=>([k],[v])
def bh (x y:T):Rs T:=match x,aR y with
 | .dct ks vs,some k=>match dget ks vs k with
  | some t=> .ok t
  | none=> .bad
 | _,_=> .bad
def dgetT (x y:T):Rs T:=match x,aR y with
 | .dct ks vs,some k=>match dget ks vs k with
  | some t=> .ok t
  | none=> .ok .non
 | _,_=> .bad
def oD (g:T->T->Rs T)(fa fb:En->Rs T)(ρ:En):Rs T:=fa ρ >>= fun x=>match x with
 | .dct ks vs=>fb ρ >>= g (.dct ks vs)
 | _=> .bad
def oL (g:T->T->Rs T)(fa fb:En->Rs T)(ρ:En):Rs T:=fa ρ >>= fun x=>match x with
 | .lst l=>fb ρ >>= g (.lst l)
 | _=> .bad
def prs:List T->Option (List (T×T))
 | [] =>some []
 | .tup [k,v] ::l=>match aR k,prs l with
  | some _,some r=>some ((k,v)::r)
  | _,_=>none
 | _=>none
def dputs:List (T×T)->List T×List T->List T×List T
 | [],d=>d
 | (k,v)::r,d=>dputs r (fT k v d.1 d.2)
def dictT:List T->Rs T
 | [.lst l] =>match prs l with
  | some ps=>if l.length<=1000 then .ok (.dct (dputs ps ([],[])).1 (dputs ps ([],[])).2)else .bad
  | none=> .bad
 | _=> .bad
def keys?:List T->Bool
 | [] =>true
 | k::l=>(aR k).isSome&&keys? l
def sNewD (i:Nat)(f:En->Rs T)(ρ:En):Rs Fl:=f ρ >>= fun t=>dictT [t] >>= fun d=>match d with
 | .dct ks vs=>if i<ρ.length then .ok (.nx (ρ.set i (.ow (.dct ks vs))))else .bad
 | _=> .bad
def sPut (i:Nat)(fk fv:En->Rs T)(ρ:En):Rs Fl:=match ρ[i]? with
 | some (.ow (.dct ks vs))=>fv ρ >>= fun v=>fk ρ >>= fun k=>match aR k with
  | some _=>if ks.length<1000 then .ok (.nx (ρ.set i (.ow (.dct (fT k v ks vs).1 (fT k v ks vs).2))))else .bad
  | none=> .bad
 | _=> .bad
def sNewDD (i j:Nat)(ρ:En):Rs Fl:=match ρ[j]? with
 | some (.va (.lst l))=>if i<ρ.length/\keys? l=true/\(l.map aR).Nodup/\l.length<=1000 then .ok (.nx (ρ.set i (.ow (.dd l (l.map fun _=>(l,l.map fun _=> .non))))))else .bad
 | _=> .bad
def rget:List T->List (List T×List T)->List Key->Option (List T×List T)
 | k'::ks,r::rs,k=>if aR k'=some k then some r else rget ks rs k
 | _,_,_=>none
def rput (k:List Key)(x:List T×List T):List T->List (List T×List T)->List (List T×List T)
 | k'::ks,r::rs=>if aR k'=some k then x::rs else r::rput k x ks rs
 | _,rs=>rs
def sPut2 (i:Nat)(fa fb fv:En->Rs T)(ρ:En):Rs Fl:=match ρ[i]? with
 | some (.ow (.dd ks rows))=>fv ρ >>= fun v=>fa ρ >>= fun a=>match(aR a).bind fun ka=>(rget ks rows ka).map fun r=>(ka,r)with
  | some (ka,r)=>fb ρ >>= fun b=>if (aR b).isSome=true/\r.1.length<1000 then .ok (.nx (ρ.set i (.ow (.dd ks (rput ka (fT b v r.1 r.2) ks rows)))))else .bad
  | none=> .bad
 | _=> .bad
def numsT:List T->Option (List Int)
 | [] =>some []
 | .int i::l=>(numsT l).map (i:: ·)
 | _=>none
def sumT:List T->Rs T
 | [.lst l] =>match numsT l with
  | some ns=> .ok (.int ns.sum)
  | none=> .bad
 | _=> .bad
def firstEq (x:T):List T->Nat->Option Nat
 | [],_=>none
 | t::l,n=>if aW t x then some n else firstEq x l (n+1)
def fY (y x:T):Rs T:=match y with
 | .lst l=>if (x.dep<=60\/deps l<=60)/\x.nd=true/\nds l=true then match firstEq x l 0 with
   | some n=> .ok (.int n)
   | none=> .bad
  else .bad
 | _=> .bad
def FU:Nat:=1000000000000
end Tr
namespace Tr
open PySem PySem.Spec PyProof.Rows L2
theorem gh {h b b':Heap}:∀ {l:List Env},h.FunFrames b l->(∀a∈l.filterMap (·.frame),b'.get? a=none)->h.FunFrames b' l
 | [],_,_=>trivial
 | env::cq,⟨hk,⟨L,o,hf,hn,ho,hd⟩,hr⟩,q=>by
  rw [List.filterMap_cons,hf]at q
  exact⟨hk,⟨L,o,hf,q L List.mem_cons_self,ho,hd⟩,gh hr fun a ha=>q a (List.mem_cons_of_mem _ ha)⟩
section
variable {M:Model}{A:Around}{E:Value->Shared->Prop}{s:Shared}
structure Gone (fs:List Addr)(C e:Addr)(T:Option Addr)(h h':Heap)(T':Addr):Prop where
 flt:Flt h' C e (some T')
 new:T=some T'\/h.get? T'=none
 keep:∀ b o,b∉fs->b≠e->T≠some b->h.get? b=some o->h'.get? b=some o
 slot:∀ b o,b∈fs->h.get? b=some o->∃ sl,h'.get? b=some { o with slots:=sl }
theorem leave1 {base:Heap}{env:Env}{outer:List Env}{L C e:Addr}{T:Option Addr}{Q:Unit->Shared->Prop}(hfr:A.frames=some (env::outer))(hl:s.heap.FunFrames base (env::outer))(hf:env.frame=some L)
  (F:Flt s.heap C e T) (h:∀ h' T',Gone ((env::outer).filterMap (·.frame)) C e T s.heap h' T'->Q () { s with heap:=h' }):wpAny M A (leaving env (.ref e)) Q E s:=by
 generalize hB:PySem.W.hideAll s.heap (e::(T.toList++(env::outer).filterMap (·.frame)))=B
 have bm:∀ b,b∈e::(T.toList++(env::outer).filterMap (·.frame))->B.get? b=none:=fun b m=>by rw [<-hB];exact PySem.W.hideAll_none _ m
 have hl':s.heap.FunFrames B (env::outer):=gh hl fun a ha=>bm a (List.mem_cons_of_mem _ (List.mem_append_right _ ha))
 have hst:B.StaysIn s.heap:=fun b o q=>by rw [<-hB]at q;exact PySem.W.of_hideAll _ q
 have hen:B.get? e=none:=bm e List.mem_cons_self
 have main:∀ h',Heap.Left B (env::outer) e (.ref C) s.heap h'->Q () { s with heap:=h' }:=fun h' ⟨x1,x2,⟨oe,vs,T',oT,ts,he,hc,hd,h1,hnT,hTe,hT,hdT,h3⟩,x4⟩=>by
  refine h h' T' ⟨⟨hTe,oe,vs,he,hc,hd,h1,oT,ts,hT,hdT,h3⟩,?_,fun b o n1 n2 n3 q=> ?_,fun b o m q=> ?_⟩
  ·cases q:s.heap.get? T' with
   | none=>exact .inr rfl
   | some o=>
    left
    by_cases z:T'∈e::(T.toList++(env::outer).filterMap (·.frame))
    ·rcases List.mem_cons.mp z with z | z
     ·exact absurd z hTe
     ·rcases List.mem_append.mp z with z | z
      ·cases T with
       | none=>simp at z
       | some t=>simp at z;rw [z]
      ·obtain⟨_,o',ho',hnf⟩:=x2.mem z
       rw [hT]at ho';cases ho'
       exact absurd hdT (hnf ts)
    ·rw [<-hB,PySem.W.hideAll_get _ q z]at hnT;cases hnT
  ·refine x1 b o ?_
   rw [<-hB]
   refine PySem.W.hideAll_get _ q fun z=> ?_
   rcases List.mem_cons.mp z with z | z
   ·exact n2 z
   ·rcases List.mem_append.mp z with z | z
    ·cases T with
     | none=>simp at z
     | some t=>simp at z;exact n3 (by rw [z])
    ·exact n1 z
  ·obtain⟨_,o',ho',hnf⟩:=hl.mem m
   rw [q]at ho';cases ho'
   exact x4 b o q hnf
 cases T with
 | none=>
  obtain⟨oe,vs,he,hc,hd,h1⟩:=F
  refine wpAny_leaving_first hfr hl' hf he hst hen hd h1 fun h' x=>main h' ?_
  rw [hc]at x;exact x
 | some t=>
  obtain⟨hte,oe,vs,he,hc,hd,h1,oT,ts,hT,hdT,h3⟩:=F
  exact wpAny_leaving_next hfr hl' hf ⟨oe,vs,t,oT,ts,he,hc,hd,h1,bm t (List.mem_cons_of_mem _ (List.mem_append_left _ (by simp))),hte,hT,hdT,h3⟩ hst hen main
end
abbrev bmV:List Value:=[.type "ValueError",.type "Exception",.type "BaseException",.type "object"]
structure OwnExc (K:PySem.W.Frag)(C:Addr)(bm:List Value):Prop where
 at_:∀ h:Heap,K.In h->∃ nm q N bs hdct sn sub ab col dd k0 k1 k2 k3 k5 mN,h.get? C=some (excClassObj nm q C N bs bm hdct sn sub ab col dd k0 k1 k2 k3 k5 "ValueError.__new__")/\h.Ns N mN/\mN "__init__" =none/\OwnTail h bmV bm
theorem OwnExc.base {K:PySem.W.Frag}{C:Addr}{bm:List Value}(O:OwnExc K C bm){h:Heap}(k:K.In h):bm.contains (.type "BaseException")=true:=by
 obtain⟨_,_,_,_,_,_,_,_,_,_,_,_,_,_,_,_,_,_,_,T⟩:=O.at_ h k
 exact T.hasType (by decide)
def sErr (c:Str)(_:En):Rs Fl:=.err c
section
variable {X:Cx}
theorem qs_raise {c:Str}{msg:Str}{C:Addr}{bm:List Value}{np p1 cpos pos:Pos}{j:Nat}(O:OwnExc X.K C bm)(hc:X.calm=true)(hm:X.mg c=some (.ref C))(hg:Gl X c:=by rfl)(hd:(c == ("__debug__" : Str))=false:=by decide) :
  PSt X (.Raise (some (.Call (.Name c np) [.Constant (.str msg) j p1] [] cpos)) none pos) (sErr c):=by
 intro pins s σ H D I ⟨ρ,B,M,E,k⟩
 have k:XA X M.u H c:=k
 obtain⟨nm,q,N,bs,hdct,sn,sub,ab,col,dd,k0,k1,k2,k3,k5,mN,hC,hN,hni,T⟩:=O.at_ s.heap I.kIn
 refine wpAny_Raise_call_subU (C:=C) (mN:=mN) (nm:=nm) (q:=q) (N:=N) (bs:=bs) (hdct:=hdct) (sn:=sn) (sub:=sub) (ab:=ab) (col:=col) (dd:=dd) (k0:=k0) (k1:=k1) (k2:=k2) (k3:=k3) (k5:=k5) PySem.F.excBase_ValueError (Bn:="ValueError") (by decide) PySem.F.excBase_ValueError (O.base I.kIn) (I.ok.hd hc) (by rfl) hni (ld_glob I hg hm ⟨rfl,?_⟩ hd)
 show wpAny _ _ (evalArgs (.ref C) true ((false,eval (.Constant (.str msg) j p1) X.env)::backTo cpos (starEach [] X.env)) []) _ _ s
 refine Calls.evalArgs_plain (Calls.spliced_cons (Calls.Constant_str (Calls.spliced_nil ?_)))
 refine⟨rfl,by show 1<=sizeLine;decide,hC,hN,T,fun h' e hm'=>k pins _ _ ?_⟩
 obtain⟨t,ht,ht2,ht3⟩:=hm'.there
 have I':Inv X pins σ H { s with heap:=h',toks:=s.toks+1 }:=I.kept (t':=s.toks+1) fun b o z=>hm'.keeps b o z
 refine⟨e,none,C,σ,H,rfl,hm,I',fun b o z _=>z,?_,?_,⟨_,_,ht,rfl,rfl,rfl⟩,(fun t z=>by cases z),fun p hp=>⟨fun z=> ?_,fun z=>by cases z⟩⟩
 ·exact no_track I hm'.new
 ·exact fun hex=>no_old I hex hm'.new
 ·have:=(I.pin p hp).1
  rw [z,show s.heap.get? e=none from hm'.new]at this
  cases this
end
section
variable {P:Program}{w:World}{K:PySem.W.Frag}{mg:Str->Option Value}{base:Heap}
theorem fnx_ok {x qual:Str}{st:Stmt}{f:Addr}{fd:FuncData}{N ps:List Str}{k n:Nat}{g:List T->Rs T}(Fn:L2.Fun K x qual st f fd)(S:aB N ps (aj st))(hn:ps.length=n)
  (hbody:∀ (cdv:Value) (A:Around) (outer:List Env) (s:Shared) (H:Hp) (E:XK),Room k (A.deeper (envOfC qual (aj st) s.heap.objs.size f cdv)) →
   ∃F,(∀xe,PSst ((cxOf CX0 P w K mg base N qual (aj st) f cdv A outer s H E).wish xe) (cA st) F)/\∀ ts,ts.length=n->∀ c,g ts= .err c->F (bc N.length ts)= .err c):FnX P w K mg base (k+1) f fd ps n g:=by
 intro A outer s H args us vs O ts c R hr e0 hb r rs trk hl hg hR
 have hpl:ps.length<=N.length:=by have:=congrArg List.length S.pre;rw [List.length_take]at this;omega
 obtain⟨oc,od,kV,doc,pm,an,cdv,ct,osl,rfl,lk,hcd⟩:=Fn.ex
 have hlen:vs.length=ps.length:=by rw [<-rs.length,hl,hn]
 have KX:K.In s.heap:=e0.mod.kin.keeps fun b o e=>(e0.bs b o e).1
 have lim:s.heap.NoLimit:=e0.mod.nolimit.keeps fun b o e=>(e0.bs b o e).1
 have hkind:∀ y∈ps.zip us,(aj st).names.lookup y.1=some .local\/((aj st).names.lookup y.1=some .cell/\((cellsFrom (s.heap.objs.size+1) (aj st).names []).lookup y.1).isSome=true):=fun⟨n,v⟩ hy=>by
  rcases S.par n (List.of_mem_zip hy).1 with q | q
  ·exact .inl q
  ·exact .inr ⟨q,PySem.W.cellsFrom_some _ _ _ (.inl q)⟩
 refine codeAny_call_function hr.depth (KX _ _ lk) rfl S.co S.gen rfl (PySem.W.codeRec_of KX hcd) (hb _ _ _ _ ?_)
 refine wpAny_newFunctionEnv_cells S.kind hkind fun env he s1 x=> ?_
 subst he
 refine⟨lim.keeps x.toInCall.keep,codeAny_func ?_⟩
 obtain⟨F,hF,hv⟩:=hbody cdv A outer s H E0 (hr.deeper _)
 let xe:Value->Shared->Prop:=fun ev s'=>wpAny (model P w) (A.deeper (envOfC qual (aj st) s.heap.objs.size f cdv)) (leaving (envOfC qual (aj st) s.heap.objs.size f cdv) ev) (fun _ s''=>R (.error ev) s'') (fun e' s''=>R (.error e') s'') s'
 have I:Inv ((cxOf CX0 P w K mg base N qual (aj st) f cdv A outer s H E0).wish xe) [] (start N vs) H s1:=(inv_start S hr.hd e0 hlen r x).wish _
 have no:∀ a,¬noM.u a:=fun a ⟨_,z⟩=>z
 refine wpAny_mono (hF xe [] s1 (start N vs) H { nx:=fun _ _=>False,rt:=fun _ _=>False,bk:=fun _ _=>False,ct:=fun _ _=>False } I ⟨bc N.length ts,O,noM,start_env rs (by omega) trk,?_⟩) (fun fl s' z=> ?_) fun e s' hs=>hs
 rotate_left
 ·cases fl with
  | next=>obtain⟨_,_,_,z⟩:=z;exact z.elim
  | cont=>obtain⟨_,_,_,z⟩:=z;exact z.elim
  | brk=>obtain⟨_,_,_,z⟩:=z;exact z.elim
  | ret v=>obtain⟨_,_,_,_,_,z⟩:=z;exact z.elim
 rw [hv ts hl c hg]
 intro pins ev s' w'
 show wpAny _ _ _ _ _ _
 obtain⟨e,T,C,σ',H',rfl,hm,I',sm,he,heo,fl,hT,_⟩:=w'
 have heo:=heo rfl
 have hT:∀ t,T=some t->H' t=none/\s.heap.get? t=none:=fun t z=>⟨(hT t z).1,(hT t z).2 rfl⟩
 refine leave1 (base:=base) (outer:=outer) (L:=s.heap.objs.size) I'.ok.frames I'.stack rfl fl fun h' T' g=>hR _ _ ?_
 have hex:((cxOf CX0 P w K mg base N qual (aj st) f cdv A outer s H E0).wish xe).ex= []:=rfl
 have Tn:H' T'=none/\s.heap.get? T'=none:=by
  rcases g.new with z | z
  ·exact hT T' z
  ·exact⟨no_track I' z,no_old I' hex z⟩
 have out:∀ b o,s.heap.get? b=some o->b≠s.heap.objs.size:=fun b o q z=>by
  have:=Heap.lt_size q
  rw [z]at this
  exact absurd this (Nat.lt_irrefl _)
 have mem:∀ b,b∈frs ((envOfC qual (aj st) s.heap.objs.size f cdv)::outer)->b=s.heap.objs.size\/b∈frs outer:=fun b z=>by
  have z':b∈s.heap.objs.size::frs outer:=z
  exact List.mem_cons.mp z'
 have ne:∀ b o,s.heap.get? b=some o->b≠e/\T≠some b:=fun b o q=>⟨fun z=>(by subst z;rw [show s.heap.get? b=none from heo]at q;cases q),fun z=>(by rw [show s.heap.get? b=none from(hT b z).2]at q;cases q)⟩
 have keepH:∀ b u,H' b≠none->s'.heap.get? b=some u->h'.get? b=some u:=fun b u hb q=>by
  refine g.keep b u (fun z=>hb (I'.stkFree b z)) (fun z=>hb (by rw [z];exact he)) (fun z=>hb (hT b z).1) q
 refine⟨e,T',C,H',rfl,hm,I'.os,I'.bare,⟨fun b o q n hb hx=> ?_,fun b o q n hb hx=> ?_,fun b o q n hx=>I'.base.free b o q n hx,fun b o q hx=> ?_,I'.base.tups,I'.base.frzs,I'.base.tbls⟩,fun a o q=> ?_,fun b o q=>sm b o q (no b),he,heo,g.flt,Tn.1,Tn.2⟩
 ·exact g.keep b o (fun z=>(mem b z).elim (out b o q) hb) (ne b o q).1 (ne b o q).2 (I'.base.keep b o q n hb hx)
 ·obtain⟨sl,q1⟩:=I'.base.slot b o q n hb hx
  obtain⟨sl',q2⟩:=g.slot b _ (List.mem_cons_of_mem _ hb) q1
  exact⟨sl',q2⟩
 ·obtain⟨o',q1⟩:=I'.base.there b o q hx
  by_cases z:b∈frs ((envOfC qual (aj st) s.heap.objs.size f cdv)::outer)
  ·obtain⟨sl,q2⟩:=g.slot b o' z q1
   exact⟨_,q2⟩
  ·exact⟨o',g.keep b o' z (ne b o q).1 (ne b o q).2 q1⟩
 ·refine(I'.hok a o q).stay (fun b u hb z=>keepH b u ?_ z) (fun _ z=>z) fun _ _ z=>z
  rcases hb with rfl | hb
  ·rw [q];simp
  ·rw [hb];simp
end
theorem val_err {n m:Nat}{F:En->Rs Fl}{ts:List T}{c:Str}(h:val n m F ts= .err c):F (bc m ts)= .err c:=by
 unfold val at h
 split at h
 ·unfold c9 at h
  cases z:F (bc m ts)with
  | bad=>rw [z]at h;cases h
  | err c'=>rw [z]at h;cases h;rfl
  | ok f=>
   rw [z,aD]at h
   cases f <;> cases h
 ·cases h
section
variable {P:Program}{w:World}{K:PySem.W.Frag}{mg:Str->Option Value}{base:Heap}
theorem fnb_ok {x qual:Str}{st:Stmt}{f:Addr}{fd:FuncData}{N ps:List Str}{k n:Nat}{F:En->Rs Fl}(Fn:L2.Fun K x qual st f fd)(S:aB N ps (aj st))(hn:ps.length=n)
  (hbody:∀ (cdv:Value) (A:Around) (outer:List Env) (s:Shared) (H:Hp) (E:XK),Room k (A.deeper (envOfC qual (aj st) s.heap.objs.size f cdv)) →
   ∀xe,PSst ((cxOf CX0 P w K mg base N qual (aj st) f cdv A outer s H E).wish xe) (cA st) F):FnB P w K mg base (k+1) f fd ps n (val n N.length F):=
 ⟨fn_ok Fn S hn fun cdv A outer s H E hr=>⟨F,hbody cdv A outer s H E hr _,fun ts _ _ h=>val_ok h⟩,fnx_ok Fn S hn fun cdv A outer s H E hr=>⟨F,hbody cdv A outer s H E hr,fun ts _ c h=>val_err h⟩⟩
end
section
variable {X:Cx}{a:Expr}{fa:En->Rs T}{pos p:Pos}{x:Str}
theorem qs_ct:PSt X (.Continue pos) sCt:=PS.imp ps_continue fun D σ H ⟨ρ,B,M,E,h⟩=>h σ H M (fun _ _ e _=>e) E fun a z=> .inl z
end
def calmNames:List Str:=["__init__","__getattribute__","__getattr__","__class__"]
inductive OTail (h:Heap):List Value->Prop
 | base:OTail h bmV
 | own {A:Addr} {c0:Value} {dd:Option Addr} {cd:ClassData} {sl:Array (Option Value)} {mA:Str->Option Value} {tl:List Value} :
   h.get? A=some { cls:=c0,dict:=dd,data:=.cls cd,slots:=sl }->h.Ns cd.ns mA->(∀n∈calmNames,mA n=none)->OTail h tl->OTail h (.ref A::tl)
theorem OTail.tail {h:Heap}{tl:List Value}(T:OTail h tl):OwnTail h bmV tl:=by
 induction T with
 | base=>exact .base
 | own hA hN hq _ ih=>exact .own hA hN (hq _ (.head _)) ih
section
variable {M:Model}{prog:Program}{w:World}{A:Around}{E:Value->Shared->Prop}{h:Heap}{g:Array GenState}{d:Drawn}{t:Nat}{os:OsState}
theorem along_O {tl:List Value}{n:Str}{y:Option Value}{Q:Option Value->Shared->Prop}(hn:n∈calmNames)(T:OTail h tl)(hrest:lookupAlong bmV n=pure y)(hq:Q y ⟨h,g,d,t,os⟩) :
  wpAny M A (lookupAlong tl n) Q E ⟨h,g,d,t,os⟩:=by
 induction T with
 | base=>rw [hrest];exact wpAny_pure hq
 | own hA hN hni _ ih=>
  rw [lookupAlong_cons]
  refine wpAny_bind (wpAny_classOwn_cls hA hN ?_)
  rw [hni n hn]
  exact ih
theorem mro_V:mroOf (.type "ValueError")=pure bmV:=by rw [mroOf_type];kernel_rfl
variable {nm q:Str}{C N:Addr}{bs bm:List Value}{hdct:Bool}{sn:List Str}{sub:List Value}{ab:Bool}{col:Option Bool}{dd:Option Addr}{k0 k1 k2 k3 k5:Option Value}{newId:String}{mN:Str->Option Value}
theorem look_O {n:Str}{y:Option Value}{Q:Option Value->Shared->Prop}(hn:n∈calmNames)(hC:h.get? C=some (excClassObj nm q C N bs bm hdct sn sub ab col dd k0 k1 k2 k3 k5 newId))(hN:h.Ns N mN)(hmN:∀ n∈calmNames,mN n=none)(T:OTail h bm)
  (hB:typeLookup (.type "ValueError") n=pure y) (hq:Q y ⟨h,g,d,t,os⟩):wpAny M A (typeLookup (.ref C) n) Q E ⟨h,g,d,t,os⟩:=by
 have hrest:lookupAlong bmV n=pure y:=by rw [typeLookup_eq,mro_V]at hB;exact hB
 rw [typeLookup_eq]
 refine wpAny_bind (wpAny_mroOf_exc hC ?_)
 rw [lookupAlong_cons]
 refine wpAny_bind (wpAny_classOwn_exc hC hN ?_)
 rw [hmN n hn]
 exact along_O hn T hrest hq
theorem lk_class:typeLookup (.type "ValueError") "__class__" =pure (some (.builtin "object.__class__")):=by rw [typeLookup_type,builtinLookup_eq_fast];kernel_rfl
theorem lk_getattr:typeLookup (.type "ValueError") "__getattr__" =pure none:=by rw [typeLookup_type,builtinLookup_eq_fast];kernel_rfl
theorem ga_V:Slot "ValueError" "__getattribute__" "BaseException.__getattribute__":=.of (owner:="BaseException") (n:="__getattribute__") (by rw [typeLookup_type,builtinLookup_eq_fast];kernel_rfl) (by decide+kernel) (by decide+kernel) (by decide+kernel) (by first | exact .inl (by decide+kernel) | exact .inr (by decide+kernel)) (by rw [isSubtype_type];kernel_rfl)
variable {a:Addr}{o:Obj}{vs:Array Value}
theorem cls_get {R:Result->Shared->Prop}(hC:h.get? C=some (excClassObj nm q C N bs bm hdct sn sub ab col dd k0 k1 k2 k3 k5 newId))(T:OTail h bm)
  (hx:h.get? a=some o) (hc:o.cls= .ref C) (hq:R (.ok (.ret (.ref C))) ⟨h,g,d,t,os⟩) :
  codeAny (model prog w) A (.call (.builtin "getset_descriptor.__get__") ⟨[.builtin "object.__class__",.ref a,.ref C],[]⟩) R ⟨h,g,d,t,os⟩:=by
 have hT5:(⟨h,g,d,t,os⟩:Shared).TypeIs (.builtin "object.__class__") "getset_descriptor":=F.typeOf_object_class
 have hcB:(Value.ref C::bm).contains (.type (".".intercalate ("object.__class__".cutAt '.').dropLast))=true:=by
  rw [F.owner_object_class,List.contains_cons,T.tail.hasType (b:=true) (by decide)];rfl
 refine codeAny_call_builtin F.slot_gs_get.plain F.entry_gs_get (F.slot_gs_get.check _ _ _ _ _ _ _ _ hT5 (F.args_gs_get _ _ _) ?_)
 repeat (any_goals (first | assumption | (with_reducible refine wpAny_loadPart_at hx ?_;rw [hc]) | (with_reducible refine wpAny_isSubtype_exc hC ?_;rw [hcB]) | wp_step))
 refine⟨Code.quiet_builtin _ (by decide+kernel),codeAny_builtin F.entry_object_class ?_⟩
 repeat (any_goals (first | assumption | (with_reducible refine wpAny_loadPart_at hx ?_;rw [hc]) | wp_step))
theorem ga_check {nameV:Value}{Q:Unit->Shared->Prop}(hC:h.get? C=some (excClassObj nm q C N bs bm hdct sn sub ab col dd k0 k1 k2 k3 k5 newId))(T:OTail h bm)
  (hx:h.get? a=some o) (hc:o.cls= .ref C) (hq:Q () ⟨h,g,d,t,os⟩):wpAny M A (checkBuiltinCall "BaseException.__getattribute__" ⟨[.ref a,nameV],[]⟩) Q E ⟨h,g,d,t,os⟩:=by
 have hk:builtinKind "BaseException.__getattribute__" =some .slot:=by decide+kernel
 have hsplit:splitId "BaseException.__getattribute__" =some ("BaseException","__getattribute__"):=by decide+kernel
 have hcB:(Value.ref C::bm).contains (.type "BaseException")=true:=by rw [List.contains_cons,T.tail.hasType (b:=true) (by decide)];rfl
 have ha:=F.args_bexc_ga (.ref a) nameV
 simp only [checkBuiltinCall,hk,hsplit]
 refine wpAny_bind ?_
 ·unfold isInstance
  repeat (first | (with_reducible refine wpAny_loadPart_at hx ?_;rw [hc]) | (with_reducible refine wpAny_isSubtype_exc hC ?_;rw [hcB]) | wp_step)
  exact hq
theorem cls_entry {tk:Tok}{Q:Fin->Shared->Prop}(hC:h.get? C=some (excClassObj nm q C N bs bm hdct sn sub ab col dd k0 k1 k2 k3 k5 newId))(hN:h.Ns N mN)
  (hmN:∀ n∈calmNames,mN n=none) (T:OTail h bm) (hx:h.get? a=some o) (hc:o.cls= .ref C) (hd:o.data= .fields vs) (hq:Q (.done (.ret (.ref C))) ⟨h,g,d,t,os⟩) :
  wpAny (model prog w) A (Builtin.«object.__getattribute__» ⟨[.ref a,.str "__class__" tk],[]⟩) Q E ⟨h,g,d,t,os⟩:=by
 have hT5:(⟨h,g,d,t,os⟩:Shared).TypeIs (.builtin "object.__class__") "getset_descriptor":=F.typeOf_object_class
 have f5:=F.typeOf_object_class
 have f6:=F.slot_gs_get.lookup
 have f7:=F.slot_gs_set.lookup
 have hmA:("__class__" : Str)∈calmNames:=.tail _ (.tail _ (.tail _ (.head _)))
 repeat (any_goals (first | assumption | (with_reducible refine wpAny_loadPart_at hx ?_;rw [hc]) | with_reducible refine look_O hmA hC hN hmN T lk_class ?_ | wp_step))
 refine cls_get hC T hx hc ?_
 repeat (any_goals (first | assumption | wp_step))
theorem cls_call {tk:Tok}{R:Result->Shared->Prop}(hC:h.get? C=some (excClassObj nm q C N bs bm hdct sn sub ab col dd k0 k1 k2 k3 k5 newId))(hN:h.Ns N mN)
  (hmN:∀ n∈calmNames,mN n=none) (T:OTail h bm) (hx:h.get? a=some o) (hc:o.cls= .ref C) (hd:o.data= .fields vs) (hq:R (.ok (.ret (.ref C))) ⟨h,g,d,t,os⟩) :
  codeAny (model prog w) A (.call (.builtin "BaseException.__getattribute__") ⟨[.ref a,.str "__class__" tk],[]⟩) R ⟨h,g,d,t,os⟩:=
 codeAny_call_builtin ga_V.plain F.entry_bexc_ga (ga_check hC T hx hc (cls_entry hC hN hmN T hx hc hd hq))
theorem cls_by {tk:Tok}{fill expr:Bool}{Q:Value->Shared->Prop}(hC:h.get? C=some (excClassObj nm q C N bs bm hdct sn sub ab col dd k0 k1 k2 k3 k5 newId))(hN:h.Ns N mN)
  (hmN:∀ n∈calmNames,mN n=none) (T:OTail h bm) (hx:h.get? a=some o) (hc:o.cls= .ref C) (hd:o.data= .fields vs) (hq:Q (.ref C) ⟨h,g,d,t,os⟩) :
  wpAny (model prog w) A (getAttrBy (.ref a) (.str "__class__" tk) fill expr) Q E ⟨h,g,d,t,os⟩:=by
 have f3:=ga_V.bind (.ref a)
 have hx0:(expr&&onTheHeap (Value.builtin "BaseException.__getattribute__"))=false:=by cases expr <;> rfl
 have hx2:(Value.builtin "BaseException.__getattribute__" == Value.builtin "object.__getattribute__")=false:=by decide+kernel
 have hx1:(onTheHeap (Value.ref C)&&Value.builtin "BaseException.__getattribute__" == Value.builtin "object.__getattribute__")=false:=by rw [hx2];rfl
 have hm1:("__getattribute__" : Str)∈calmNames:=.tail _ (.head _)
 have hm2:("__getattr__" : Str)∈calmNames:=.tail _ (.tail _ (.head _))
 repeat (any_goals (first | assumption | (with_reducible refine wpAny_loadPart_at hx ?_;rw [hc]) | with_reducible refine look_O hm1 hC hN hmN T ga_V.lookup ?_ | with_reducible refine look_O hm2 hC hN hmN T lk_getattr ?_ | wp_step))
 refine cls_call hC hN hmN T hx hc hd ?_
 repeat (any_goals (first | assumption | wp_step))
theorem cls_attr {Q:Option Value->Shared->Prop}(hC:h.get? C=some (excClassObj nm q C N bs bm hdct sn sub ab col dd k0 k1 k2 k3 k5 newId))(hN:h.Ns N mN)
  (hmN:∀ n∈calmNames,mN n=none) (T:OTail h bm) (hx:h.get? a=some o) (hc:o.cls= .ref C) (hd:o.data= .fields vs) (hq:Q (some (.ref C)) ⟨h,g,d,t+1,os⟩) :
  wpAny (model prog w) A (getAttr? (.ref a) "__class__") Q E ⟨h,g,d,t,os⟩:=by
 unfold getAttr? getAttrBy?
 repeat (any_goals (first | assumption | with_reducible apply cls_by hC hN hmN T hx hc hd | wp_step))
end
section
variable {M:Model}{prog:Program}{w:World}{A:Around}{E:Value->Shared->Prop}{h:Heap}{g:Array GenState}{d:Drawn}{t:Nat}{os:OsState}
variable {nm q:Str}{C N:Addr}{bs bm:List Value}{hdct:Bool}{sn:List Str}{sub:List Value}{ab:Bool}{col:Option Bool}{dd:Option Addr}{k0 k1 k2 k3 k5:Option Value}{newId:String}{mN:Str->Option Value}
variable {a:Addr}{o:Obj}{vs:Array Value}
theorem nest_self {dep:Int}{tk:Tok}{Q:Fin->Shared->Prop}(hx:h.get? a=some o)(hc:o.cls= .ref C)(hq:Q (.done (.ret (.bool true))) ⟨h,g,d,t,os⟩) :
  wpAny (model prog w) A (Builtin.«isinstance.nested» ⟨[.ref a,.ref C,.int dep tk],[]⟩) Q E ⟨h,g,d,t,os⟩:=by
 have e:(Value.ref C == Value.ref C)=true:=by simp
 repeat (any_goals (first | assumption | (with_reducible refine wpAny_loadPart_at hx ?_;rw [hc]) | wp_step))
theorem nest_V {dep:Int}{tk:Tok}{Q:Fin->Shared->Prop}(hC:h.get? C=some (excClassObj nm q C N bs bm hdct sn sub ab col dd k0 k1 k2 k3 k5 newId))(T:OTail h bm)(hx:h.get? a=some o)(hc:o.cls= .ref C)
  (hq:Q (.done (.ret (.bool true))) ⟨h,g,d,t,os⟩):wpAny (model prog w) A (Builtin.«isinstance.nested» ⟨[.ref a,.type "ValueError",.int dep tk],[]⟩) Q E ⟨h,g,d,t,os⟩:=by
 have e:(Value.ref C == Value.type "ValueError")=false:=rfl
 have hty:typeOf (.type "ValueError")=pure (.type "type"):=by kernel_rfl
 have hcB:(Value.ref C::bm).contains (.type "ValueError")=true:=by rw [List.contains_cons,T.tail.hasType (b:=true) (by decide)];rfl
 repeat (any_goals (first | assumption | (with_reducible refine wpAny_loadPart_at hx ?_;rw [hc]) | (with_reducible refine wpAny_isSubtype_exc hC ?_;rw [hcB]) | wp_step))
theorem nest_not {D:Addr}{oD:Obj}{cD:ClassData}{dep:Int}{tk:Tok}{Q:Fin->Shared->Prop}(hC:h.get? C=some (excClassObj nm q C N bs bm hdct sn sub ab col dd k0 k1 k2 k3 k5 newId))(hN:h.Ns N mN)(hmN:∀ n∈calmNames,mN n=none)(T:OTail h bm)
  (hx:h.get? a=some o) (hc:o.cls= .ref C) (hd:o.data= .fields vs) (hD:h.get? D=some oD) (hDt:oD.cls= .type "type") (hDd:oD.data= .cls cD) (hne:(Value.ref C == Value.ref D)=false) (hnb:(Value.ref C::bm).contains (.ref D)=false)
  (hq:Q (.done (.ret (.bool false))) ⟨h,g,d,t+1,os⟩):wpAny (model prog w) A (Builtin.«isinstance.nested» ⟨[.ref a,.ref D,.int dep tk],[]⟩) Q E ⟨h,g,d,t,os⟩:=by
 repeat (any_goals (first | assumption | (with_reducible refine wpAny_loadPart_at hx ?_;rw [hc]) | (with_reducible refine wpAny_loadPart_at hD ?_;rw [hDt]) | (with_reducible refine wpAny_loadPart_at hD ?_;rw [hDd]) | (with_reducible refine wpAny_loadPart_at hC ?_) | (with_reducible refine wpAny_isSubtype_exc hC ?_;rw [hnb]) | with_reducible refine cls_attr hC hN hmN T hx hc hd ?_ | wp_step))
end
structure OX (K:PySem.W.Frag)(C:Addr)(bm:List Value):Prop where
 at_:∀ h:Heap,K.In h->∃ nm q N bs hdct sn sub ab col dd k0 k1 k2 k3 k5 mN,h.get? C=some (excClassObj nm q C N bs bm hdct sn sub ab col dd k0 k1 k2 k3 k5 "ValueError.__new__")/\h.Ns N mN/\(∀n∈calmNames,mN n=none)/\OTail h bm
theorem OX.own {K:PySem.W.Frag}{C:Addr}{bm:List Value}(O:OX K C bm):OwnExc K C bm:=⟨fun h k=>by
 obtain⟨nm,q,N,bs,hdct,sn,sub,ab,col,dd,k0,k1,k2,k3,k5,mN,h1,h2,h3,h4⟩:=O.at_ h k
 exact⟨nm,q,N,bs,hdct,sn,sub,ab,col,dd,k0,k1,k2,k3,k5,mN,h1,h2,h3 _ (.head _),h4.tail⟩⟩
section
variable {X:Cx}{e C D:Addr}{oe:Obj}{ev:Array Value}{bm bmD:List Value}
def tIs (e:Addr)(b:Bool):TE:=fun σ H Q=>σ[0]? =some (some (.ref e))/\Q (.bl b) H
theorem isx_call {pins:List (Addr×Obj)}{σ:L2.St}{H:Hp}{s:Shared}{Q:VK}(hp:(e,oe)∈X.pn)(hc:oe.cls= .ref C)(hd:oe.data= .fields ev)(OC:OX X.K C bm)(OD:OX X.K D bmD)(b:Bool)(hb:(decide (C=D))=b)(hnb:C≠D->bm.contains (.ref D)=false)
  (I:Inv X pins σ H s) (q:Q (.bl b) H):wpAny (model X.prog X.w) X.A (call (.builtin "isinstance") [.ref e,.ref D]) (EP X pins σ Q) X.xe s:=by
 have hx:s.heap.get? e=some oe:=(I.pin (e,oe) (List.mem_append_left _ hp)).1
 obtain⟨nm,qq,N,bs,hdct,sn,sub,ab,col,dd,k0,k1,k2,k3,k5,mN,hC,hN,hmN,T⟩:=OC.at_ s.heap I.kIn
 obtain⟨nm',qq',N',bs',hdct',sn',sub',ab',col',dd',k0',k1',k2',k3',k5',mN',hD,_⟩:=OD.at_ s.heap I.kIn
 obtain⟨h,g,d,t,os⟩:=s
 refine call_isinstance_of ?_ (by intro z;cases z)
 by_cases z:C=D
 ·subst z
  have:b=true:=by rw [<-hb];simp
  subst this
  exact nest_self hx hc ⟨.bl true,H,I,rfl,q⟩
 ·have:b=false:=by rw [<-hb];simp [z]
  subst this
  refine nest_not hC hN hmN T hx hc hd hD rfl rfl ?_ ?_ ⟨.bl false,H,I.tok _,rfl,q⟩
  ·rw [beq_eq_false_iff_ne];exact fun y=>z (Value.ref.inj y)
  ·rw [List.contains_cons,hnb z,Bool.or_false,beq_eq_false_iff_ne]
   exact fun y=>z (Value.ref.inj y).symm
theorem isV_call {pins:List (Addr×Obj)}{σ:L2.St}{H:Hp}{s:Shared}{Q:VK}(hp:(e,oe)∈X.pn)(hc:oe.cls= .ref C)(OC:OX X.K C bm)
  (I:Inv X pins σ H s) (q:Q (.bl true) H):wpAny (model X.prog X.w) X.A (call (.builtin "isinstance") [.ref e,.type "ValueError"]) (EP X pins σ Q) X.xe s:=by
 have hx:s.heap.get? e=some oe:=(I.pin (e,oe) (List.mem_append_left _ hp)).1
 obtain⟨nm,qq,N,bs,hdct,sn,sub,ab,col,dd,k0,k1,k2,k3,k5,mN,hC,hN,hmN,T⟩:=OC.at_ s.heap I.kIn
 obtain⟨h,g,d,t,os⟩:=s
 refine call_isinstance_of ?_ (by intro z;cases z)
 exact nest_V hC T hx hc ⟨.bl true,H,I,rfl,q⟩
theorem pe_isx {en dn:Str}{p p1 p2 pos:Pos}(hN:X.N[0]? =some en)(hv:Vis X.env.scope en)(hp:(e,oe)∈X.pn)(hc:oe.cls= .ref C)(hd:oe.data= .fields ev)(OC:OX X.K C bm)(OD:OX X.K D bmD)(b:Bool)(hb:(decide (C=D))=b)(hnb:C≠D->bm.contains (.ref D)=false)
  (hm:X.mg "isinstance" =none) (hmD:X.mg dn=some (.ref D)) (hg:Gl X "isinstance":=by rfl) (hgD:Gl X dn:=by rfl) (hde:(en == ("__debug__" : Str))=false:=by decide) (hce:(en == ("__classdict__" : Str))=false:=by decide) (hdd:(dn == ("__debug__" : Str))=false:=by decide)
  (he:starEach [.Name en p1,.Name dn p2] X.env=(false,eval (.Name en p1) X.env)::starEach [.Name dn p2] X.env:=by rfl) (hpl:(backTo pos (starEach [.Name dn p2] X.env)).any (·.1)=false:=by rfl)
  (hs:starEach [.Name dn p2] X.env=(false,eval (.Name dn p2) X.env)::starEach [] X.env:=by rfl) :
  PE X (.Call (.Name "isinstance" p) [.Name en p1,.Name dn p2] [] pos) (tIs e b):=by
 intro pins s σ H Q I ⟨hσ,q⟩
 refine wpAny_Call_Name_kw (fN I hg hm eU ?_ (by decide) (by decide))
 have hA:PA X [.Name en p1,.Name dn p2] (fV (tVar 0) (fV (tC (.ref D)) tNil)):=a6 (gy hN hv hde hce) (a6 (pe_glob hgD hmD rfl hdd) db hs) he
 refine PyProof.Rows.callWith_builtin1 (bK (hA pos pins s σ H (fun vs H'=>vs= [.ref e,.ref D]/\H'=H) I ⟨.ref e,hσ,rfl,rfl⟩) fun us s1 ⟨vs,H1,I1,r1,e1,e2⟩=> ?_) he hpl
 subst e1
 obtain⟨u,w',rfl,ru,rw'⟩:=vals2 r1
 cases ru
 cases rw'
 subst e2
 exact isx_call hp hc hd OC OD b hb hnb I1 q
end
theorem eqB (a b:Bool):MeetsSeq.EqGives (.bool a) (.bool b) (a == b):=fun prog w A E s Q h=>(PySem.SeqAt.EqAt.bool_bool a b (A:=A) (s:=s)) prog w E Q h
section
variable {X:Cx}
theorem vals_bl:∀ {ks:List Bool} {us:List Value},Vals (ks.map V.bl) us->us=ks.map Value.bool
 | [],us,r=>by cases r;rfl
 | k::ks,us,r=>by
  cases r with
  | cons r1 r2=>cases r1;rw [vals_bl r2];rfl
def isTrueV:Value->Bool
 | .bool b=>b
 | _=>false
def rCountT:V->List V->Hp->VK->Prop:=fun x vs H Q=> ∃(l:Addr) (ks:List Bool),x= .ref l/\vs= [.bl true]/\H l=some (.lst (ks.map V.bl))/\Q (.int (ks.countP id:Nat)) H
theorem mt_countT:MtR X "list.count" rCountT:=by
 intro pins s σ H x vs v us Q I rx rv h
 obtain⟨l,ks,rfl,rfl,hH,q⟩:=h
 cases rx
 obtain⟨u,rfl,ru⟩:=rv.one
 cases ru
 obtain⟨z,its,n,r,hl,e⟩:=I.lstM hH
 have hi:=vals_bl r
 subst hi
 refine call_meets F.slot_list_count ⟨_,e,rfl⟩ F.entry_list_count (F.args_list_count_2 _ _) (MeetsSeq.list_count l (ks.map Value.bool).toArray n (.bool true) isTrueV fun y hy=> ?_) ⟨e,?_⟩
 ·have hy':y∈ks.map Value.bool:=by simpa using hy
  obtain⟨k,_,rfl⟩:=List.mem_map.mp hy'
  have:=eqB k true
  cases k <;> exact this
 ·have hc:(ks.map Value.bool).toArray.toList.countP isTrueV=ks.countP id:=by
   simp only [List.countP_map];rfl
  rw [hc]
  exact⟨.int _,H,I.tok _,⟨_,rfl⟩,q⟩
def rIndexT:V->List V->Hp->VK->Prop:=fun x vs H Q=> ∃(l:Addr) (ks:List Bool) (j:Nat),x= .ref l/\vs= [.bl true]/\H l=some (.lst (ks.map V.bl))/\ks[j]? =some true/\(∀m,m<j->ks[m]? =some false)/\j<=1000/\Q (.int (j:Nat)) H
theorem mt_indexT:MtR X "list.index" rIndexT:=by
 intro pins s σ H x vs v us Q I rx rv h
 obtain⟨l,ks,j,rfl,rfl,hH,hj,hno,hs,q⟩:=h
 cases rx
 obtain⟨u,rfl,ru⟩:=rv.one
 cases ru
 obtain⟨z,its,n,r,hl,e⟩:=I.lstM hH
 have hi:=vals_bl r
 subst hi
 have hjl:j<ks.length:=(List.getElem?_eq_some_iff.mp hj).1
 refine call_meets F.slot_list_index ⟨_,e,rfl⟩ F.entry_list_index (F.args_list_index_2 _ _) (MeetsSeq.list_index l (ks.map Value.bool).toArray n (.bool true) isTrueV (fun y hy=> ?_) j (by simpa using hjl) (by omega) ?_ ?_) ⟨e,?_⟩
 ·have hy':y∈ks.map Value.bool:=by simpa using hy
  obtain⟨k,_,rfl⟩:=List.mem_map.mp hy'
  have:=eqB k true
  cases k <;> exact this
 ·have:ks[j] =true:=by have:=(List.getElem?_eq_some_iff.mp hj).2;exact this
  simp [this,isTrueV]
 ·intro m hm hmj
  have hmk:m<ks.length:=by simpa using hm
  have:=(List.getElem?_eq_some_iff.mp (hno m hmj)).2
  simp [this,isTrueV]
 ·exact⟨.int _,H,I.tok _,⟨_,rfl⟩,q⟩
end
abbrev cxH (P:Program)(w:World)(K:PySem.W.Frag)(mg:Str->Option Value)(base:Heap)(N:List Str)(qual:Str)(scope:Scope)(f:Addr)(cd:Value)(A:Around)(outer:List Env)(s:Shared)(H:Hp)(e:Addr)(oe:Obj):Cx:=
 { cxOf CX0 P w K mg base N qual scope f cd A outer s H E0 with calm:=false,pn:=[(e,oe)],xe:=fun _ _=>False }
section
variable {P:Program}{w:World}{K:PySem.W.Frag}{mg:Str->Option Value}{base:Heap}
theorem inv_startH {N ps:List Str}{qual:Str}{scope:Scope}{f:Addr}{cd:Value}{A:Around}{outer:List Env}{s s1:Shared}{H:Hp}{us:List Value}{vs:List V}{e:Addr}{oe:Obj}
  (S:aB N ps scope) (e0:Env0 P w K mg base A outer s H) (hl:vs.length=ps.length) (r:Vals vs us)
  (x:InCallC s s.heap.objs.size (bindL (envOfC qual scope s.heap.objs.size f cd).kindOf (ps.zip us) fun _=>none) (cellsFrom (s.heap.objs.size+1) scope.names []) (bindC (envOfC qual scope s.heap.objs.size f cd).kindOf (ps.zip us) fun _=>none) s1)
  (he:s.heap.get? e=some oe) (hH:H e=none) (hf:e∉frs outer) (hc:∀ v,oe.data≠ .cell v) :
  Inv (cxH P w K mg base N qual scope f cd A outer s H e oe) [] (start N vs) H s1:=by
 have e0':Env0 P w K mg base { A with handled:=none } outer s H:=⟨e0.frames,e0.mod,e0.bs,e0.bsz,e0.funs,e0.frf,e0.hok,e0.bare⟩
 have I:=inv_start (CX:=CX0) (E:=E0) S (A:={ A with handled:=none }) rfl e0' hl r x
 obtain⟨h1,tk,hs1,hk⟩:=x.done
 have ok:=I.ok
 refine⟨⟨ok.mod,ok.kind,ok.glob,ok.blt,ok.above,ok.inj,ok.has,ok.cab,(fun z=>by cases z),Around.frames_deeper e0.frames,.inr ⟨rfl,rfl⟩,ok.exf,ok.bs,ok.bsz,ok.noex,ok.exfs,ok.funs,ok.frf⟩,I.os,I.bare,I.base,I.loc,I.cell,I.free,I.freeC,fun p hp=> ?_,I.hok,I.len⟩
 have hp':p=(e,oe):=by simpa using hp
 subst hp'
 refine⟨?_,hH,?_,hf,hc⟩
 ·rw [hs1];exact hk e oe he
 ·exact Nat.ne_of_lt (Heap.lt_size he)
theorem fnh_ok {x qual:Str}{st:Stmt}{f:Addr}{fd:FuncData}{N ps:List Str}{A:Around}{outer:List Env}{s:Shared}{H:Hp}{args:Args}{us:List Value}{vs:List V}{Q:VK}{e:Addr}{oe:Obj}(Fn:L2.Fun K x qual st f fd)(S:aB N ps (aj st))(hlen:vs.length=ps.length)
  (hr:A.depth+3<recursionLimit) (e0:Env0 P w K mg base A outer s H) (hb:BindsTo s fd args (ps.zip us)) (r:Vals vs us) (he:s.heap.get? e=some oe) (hH:H e=none) (hf:e∉frs outer) (hc:∀ v,oe.data≠ .cell v)
  (hbody:∀ (cdv:Value),∃t,PSs (cxH P w K mg base N qual (aj st) f cdv A outer s H e oe) (cA st) t/\t { nx:=fun _ _=>False,rt:=Q } (start N vs) H) :
  codeAny (model P w) A (.call (.ref f) args) (CR CX0 outer P w H s Q E0) s:=by
 obtain⟨oc,od,kV,doc,pm,an,cdv,ct,osl,rfl,lk,hcd⟩:=Fn.ex
 have KX:K.In s.heap:=e0.mod.kin.keeps fun b o e=>(e0.bs b o e).1
 have lim:s.heap.NoLimit:=e0.mod.nolimit.keeps fun b o e=>(e0.bs b o e).1
 have hkind:∀ y∈ps.zip us,(aj st).names.lookup y.1=some .local\/((aj st).names.lookup y.1=some .cell/\((cellsFrom (s.heap.objs.size+1) (aj st).names []).lookup y.1).isSome=true):=fun⟨n,v⟩ hy=>by
  rcases S.par n (List.of_mem_zip hy).1 with q | q
  ·exact .inl q
  ·exact .inr ⟨q,PySem.W.cellsFrom_some _ _ _ (.inl q)⟩
 refine codeAny_call_function (by omega) (KX _ _ lk) rfl S.co S.gen rfl (PySem.W.codeRec_of KX hcd) (hb _ _ _ _ ?_)
 refine wpAny_newFunctionEnv_cells S.kind hkind fun env hen s1 x=> ?_
 subst hen
 refine⟨lim.keeps x.toInCall.keep,codeAny_func ?_⟩
 obtain⟨t,ht,hq⟩:=hbody cdv
 have I:=inv_startH S e0 hlen r x he hH hf hc
 refine wpAny_mono (ht [] s1 (start N vs) H _ I hq) (fun fl s' hs=> ?_) fun e s' hs=>hs.elim
 cases fl with
 | ret u=>
  obtain⟨v,σ',H',J,rv,q⟩:=hs
  exact⟨v,H',J.os,J.bare,J.base,J.hok,rv,q⟩
 | next=>obtain⟨_,_,_,q⟩:=hs;exact q.elim
 | brk=>obtain⟨_,_,_,q⟩:=hs;exact q.elim
 | cont=>obtain⟨_,_,_,q⟩:=hs;exact q.elim
end
section
variable {M:Model}{A:Around}{E:Value->Shared->Prop}{s:Shared}
theorem note1 {base:Heap}{env:Env}{outer:List Env}{L C e:Addr}{T:Option Addr}{Q:Unit->Shared->Prop}(hfr:A.frames=some (env::outer))(hl:s.heap.FunFrames base (env::outer))(hf:env.frame=some L)
  (F:Flt s.heap C e T) (h:∀ h' T',Gone ((env::outer).filterMap (·.frame)) C e T s.heap h' T'->Q () { s with heap:=h' }) :
  wpAny M A (noteFrame (.ref e) env) (fun _ s'=>wpAny M A (setFlight (.ref e) none) Q E s') E s:=by
 generalize hB:PySem.W.hideAll s.heap (e::(T.toList++(env::outer).filterMap (·.frame)))=B
 have bm:∀ b,b∈e::(T.toList++(env::outer).filterMap (·.frame))->B.get? b=none:=fun b m=>by rw [<-hB];exact PySem.W.hideAll_none _ m
 have hl':s.heap.FunFrames B (env::outer):=gh hl fun a ha=>bm a (List.mem_cons_of_mem _ (List.mem_append_right _ ha))
 have hst:B.StaysIn s.heap:=fun b o q=>by rw [<-hB]at q;exact PySem.W.of_hideAll _ q
 have hen:B.get? e=none:=bm e List.mem_cons_self
 have main:∀ h',Heap.Left B (env::outer) e (.ref C) s.heap h'->Q () { s with heap:=h' }:=fun h' ⟨x1,x2,⟨oe,vs,T',oT,ts,he,hc,hd,h1,hnT,hTe,hT,hdT,h3⟩,x4⟩=>by
  refine h h' T' ⟨⟨hTe,oe,vs,he,hc,hd,h1,oT,ts,hT,hdT,h3⟩,?_,fun b o n1 n2 n3 q=> ?_,fun b o m q=> ?_⟩
  ·cases q:s.heap.get? T' with
   | none=>exact .inr rfl
   | some o=>
    left
    by_cases z:T'∈e::(T.toList++(env::outer).filterMap (·.frame))
    ·rcases List.mem_cons.mp z with z | z
     ·exact absurd z hTe
     ·rcases List.mem_append.mp z with z | z
      ·cases T with
       | none=>simp at z
       | some t=>simp at z;rw [z]
      ·obtain⟨_,o',ho',hnf⟩:=x2.mem z
       rw [hT]at ho';cases ho'
       exact absurd hdT (hnf ts)
    ·rw [<-hB,PySem.W.hideAll_get _ q z]at hnT;cases hnT
  ·refine x1 b o ?_
   rw [<-hB]
   refine PySem.W.hideAll_get _ q fun z=> ?_
   rcases List.mem_cons.mp z with z | z
   ·exact n2 z
   ·rcases List.mem_append.mp z with z | z
    ·cases T with
     | none=>simp at z
     | some t=>simp at z;exact n3 (by rw [z])
    ·exact n1 z
  ·obtain⟨_,o',ho',hnf⟩:=hl.mem m
   rw [q]at ho';cases ho'
   exact x4 b o q hnf
 cases T with
 | none=>
  obtain⟨oe,vs,he,hc,hd,h1⟩:=F
  unfold noteFrame
  simp only [hf]
  refine wpAny_bind (wpAny_field he hd h1 ?_)
  rw [if_neg (by decide)]
  refine wpAny_newEntry hfr hl' hf he hst hen hd (Array.getElem?_eq_some_iff.mp h1).1 fun h' x=>main h' ?_
  rw [hc]at x;exact x
 | some t=>
  obtain⟨hte,oe,vs,he,hc,hd,h1,oT,ts,hT,hdT,h3⟩:=F
  have hnT:B.get? t=none:=bm t (List.mem_cons_of_mem _ (List.mem_append_left _ (by simp)))
  unfold noteFrame
  simp only [hf]
  refine wpAny_bind (wpAny_field he hd h1 ?_)
  rw [if_pos (show(Value.ref t != Value.none)=true from by simp)]
  refine wpAny_bind (wpAny_field hT hdT h3 ?_)
  rw [if_neg (show ¬((Value.none == rawInt L)=true)from by simp [rawInt])]
  refine wpAny_bind (wpAny_setField hT hdT (Array.getElem?_eq_some_iff.mp h3).1 ?_)
  have other:∀ b,b≠t->(s.heap.update t (Obj.mapFields (·.setIfInBounds 3 Value.none))).get? b=s.heap.get? b:=fun b hb=>Heap.get?_update_other _ _ (Ne.symm hb)
  have noRec:∀ b o,s.heap.get? b=some o->(∀vs,o.data≠ .fields vs)->b≠t:=fun b o hb hnf q=>by
   rw [q,hT]at hb;injection hb with hb;subst hb;exact hnf ts hdT
  refine wpAny_newEntry hfr (hl'.of_keeps fun b o hb hnf=>⟨o,(other b (noRec b o hb hnf)).trans hb,rfl⟩) hf ((other e (Ne.symm hte)).trans he)
   (fun b o hbo=>(other b fun q=>by rw [q,hnT]at hbo;cases hbo).trans (hst b o hbo)) hen hd (Array.getElem?_eq_some_iff.mp h1).1
   fun h' x=>main h' ?_
  obtain⟨x1,x2,x3,x4⟩:=x
  rw [hc]at x3
  exact⟨x1,x2,x3,fun b o hb hnf=>x4 b o ((other b (noRec b o hb hnf)).trans hb) hnf⟩
end
section
variable {X:Cx}{pins:List (Addr×Obj)}{σ:L2.St}{H:Hp}{s:Shared}{h':Heap}
theorem Inv.gone {C e T':Addr}{T:Option Addr}(I:Inv X pins σ H s)(hst:X.stack=X.env::X.outer)(hfe:X.env.frame=some X.env.locals)(hcl:∀ x c,X.env.cells.lookup x≠some c)(hex:X.ex= [])
  (g:Gone ((X.env::X.outer).filterMap (·.frame)) C e T s.heap h' T') (he:H e=none) (heo:X.s₀.heap.get? e=none) (hT:∀ t,T=some t->H t=none/\X.s₀.heap.get? t=none) (hp:∀ p∈X.pn++pins,p.1≠e/\T≠some p.1) :
  Inv X pins σ H { s with heap:=h' }:=by
 have mem:∀ b,b∈(X.env::X.outer).filterMap (·.frame)↔b=X.env.locals\/b∈X.fs:=fun b=>by
  rw [List.filterMap_cons,hfe];exact List.mem_cons
 have out:∀ b o,X.s₀.heap.get? b=some o->b≠X.env.locals:=fun b o q z=>by
  have h1:=Heap.lt_size q
  have h2:=I.ok.above
  rw [z]at h1
  exact absurd (Nat.lt_of_lt_of_le h1 h2) (Nat.lt_irrefl _)
 have ne:∀ b o,X.s₀.heap.get? b=some o->b≠e/\T≠some b:=fun b o q=>⟨fun z=>(by subst z;rw [heo]at q;cases q),fun z=>(by rw [(hT b z).2]at q;cases q)⟩
 have fr:∀ b,b∈(X.env::X.outer).filterMap (·.frame)->H b=none:=fun b z=>I.stkFree b (by rw [hst];exact z)
 have keepH:∀ b u,H b≠none->s.heap.get? b=some u->h'.get? b=some u:=fun b u hb q=>by
  refine g.keep b u (fun z=>hb (fr b z)) (fun z=>hb (by rw [z];exact he)) (fun z=>hb (hT b z).1) q
 refine⟨I.ok,I.os,I.bare,⟨fun b o q n hb hx=> ?_,fun b o q n hb hx=> ?_,I.base.free,fun b o q hx=> ?_,I.base.tups,I.base.frzs,I.base.tbls⟩,?_,fun x c z=>absurd z (hcl x c),I.free,I.freeC,fun p hp'=> ?_,fun a o q=> ?_,I.len⟩
 ·exact g.keep b o (fun z=>((mem b).mp z).elim (out b o q) hb) (ne b o q).1 (ne b o q).2 (I.base.keep b o q n hb hx)
 ·obtain⟨sl,q1⟩:=I.base.slot b o q n hb hx
  obtain⟨sl',q2⟩:=g.slot b _ ((mem b).mpr (.inr hb)) q1
  exact⟨sl',q2⟩
 ·obtain⟨o',q1⟩:=I.base.there b o q hx
  by_cases z:b∈(X.env::X.outer).filterMap (·.frame)
  ·obtain⟨sl,q2⟩:=g.slot b o' z q1
   exact⟨_,q2⟩
  ·exact⟨o',g.keep b o' z (ne b o q).1 (ne b o q).2 q1⟩
 ·obtain⟨m,⟨o,es,ep,ho,hd,r⟩,hl⟩:=I.loc
  obtain⟨sl,q2⟩:=g.slot X.env.locals o ((mem _).mpr (.inl rfl)) ho
  refine⟨m,⟨_,es,ep,q2,hd,r⟩,fun i x v a1 a2 a3=> ?_⟩
  obtain⟨u,ru,lk⟩:=hl i x v a1 a2 a3
  refine⟨u,ru,?_⟩
  rcases lk with z | ⟨_,c,z,_⟩
  ·exact .inl z
  ·exact absurd z (hcl x c)
 ·obtain⟨b1,b2,b3,b4,b5⟩:=I.pin p hp'
  exact⟨g.keep p.1 p.2 (fun z=>((mem _).mp z).elim b3 b4) (hp p hp').1 (hp p hp').2 b1,b2,b3,b4,b5⟩
 ·refine(I.hok a o q).stay (fun b u hb z=>keepH b u ?_ z) (fun _ z=>z) fun _ _ z=>z
  rcases hb with rfl | hb
  ·rw [q];simp
  ·rw [hb];simp
end
section
variable {M:Model}{A:Around}{E:Value->Shared->Prop}{h:Heap}{g:Array GenState}{d:Drawn}{t:Nat}{os:OsState}
variable {nm q:Str}{C N:Addr}{bs bm:List Value}{hdct:Bool}{sn:List Str}{sub:List Value}{ab:Bool}{col:Option Bool}{dd:Option Addr}{k0 k1 k2 k3 k5:Option Value}{newId:String}
variable {nm' q':Str}{D N':Addr}{bs' bm':List Value}{hdct':Bool}{sn':List Str}{sub':List Value}{ab':Bool}{col':Option Bool}{dd':Option Addr}{k0' k1' k2' k3' k5':Option Value}{newId':String}
theorem match_own {e:Addr}{oe:Obj}{Q:Bool->Shared->Prop}(hC:h.get? C=some (excClassObj nm q C N bs bm hdct sn sub ab col dd k0 k1 k2 k3 k5 newId))(hD:h.get? D=some (excClassObj nm' q' D N' bs' bm' hdct' sn' sub' ab' col' dd' k0' k1' k2' k3' k5' newId'))
  (he:h.get? e=some oe) (hcls:oe.cls= .ref C) (hb:bm'.contains (.type "BaseException")=true) (hin:(Value.ref C::bm).contains (.ref D)=true) (hq:Q true ⟨h,g,d,t,os⟩):wpAny M A (excMatches (.ref e) (.ref D)) Q E ⟨h,g,d,t,os⟩:=by
 have hcB:(Value.ref D::bm').contains (.type "BaseException")=true:=by rw [List.contains_cons,hb,Bool.or_true]
 have f:=tc_notTuple
 unfold excMatches
 repeat (first | (with_reducible refine wpAny_loadPart_at he ?_;rw [hcls]) | with_reducible refine wpAny_loadPart_at hD ?_ | (with_reducible refine wpAny_isSubtype_exc hD ?_;rw [hcB]) | (with_reducible refine wpAny_isSubtype_exc hC ?_;rw [hin]) | wp_step)
 exact hq
end
abbrev cxS (X:Cx)(e:Addr)(oe:Obj):Cx:={ X with A:=X.A.mark (some (.ref e)),calm:=false,pn:=(e,oe)::X.pn,xe:=fun _ _=>False }
section
variable {X:Cx}{pins:List (Addr×Obj)}{σ:L2.St}{H:Hp}{s:Shared}{e:Addr}{oe:Obj}
theorem inv_cxS (I:Inv X pins σ H s)(he:s.heap.get? e=some oe)(hH:H e=none)(hne:e≠X.env.locals)(hf:e∉X.fs)(hc:∀ v,oe.data≠ .cell v):Inv (cxS X e oe) pins σ H s:=by
 have ok:=I.ok
 refine⟨⟨ok.mod,ok.kind,ok.glob,ok.blt,ok.above,ok.inj,ok.has,ok.cab,(fun z=>by cases z),?_,ok.stk,ok.exf,ok.bs,ok.bsz,ok.noex,ok.exfs,ok.funs,ok.frf⟩,I.os,I.bare,I.base,I.loc,I.cell,I.free,I.freeC,fun p hp=> ?_,I.hok,I.len⟩
 ·exact ok.frames
 ·rcases List.mem_cons.mp (show p∈(e,oe)::(X.pn++pins)from hp)with z | z
  ·subst z;exact⟨he,hH,hne,hf,hc⟩
  ·exact I.pin p z
theorem inv_unS (ok:X.Ok)(I:Inv (cxS X e oe) pins σ H s):Inv X pins σ H s:=
 ⟨ok,I.os,I.bare,I.base,I.loc,I.cell,I.free,I.freeC,fun p hp=>I.pin p (List.mem_cons_of_mem _ hp),I.hok,I.len⟩
theorem Inv.forget {h':Heap}{tk:Nat}{m:Str->Option Value}(I:Inv X pins σ H s)(hcl:∀ x c,X.env.cells.lookup x≠some c)(hn:h'.Ns X.env.locals m)(hs:Heap.SameBut X.env.locals s.heap h'):Inv X pins (List.replicate X.N.length none) H { s with heap:=h',toks:=tk }:=by
 have out:∀ b o,X.s₀.heap.get? b=some o->b≠X.env.locals:=fun b o q z=>by
  have h1:=Heap.lt_size q
  have h2:=I.ok.above
  rw [z]at h1
  exact absurd (Nat.lt_of_lt_of_le h1 h2) (Nat.lt_irrefl _)
 have kp:∀ b o,b≠X.env.locals->s.heap.get? b=some o->h'.get? b=some o:=fun b o n q=>hs.extBut b o n q
 refine⟨I.ok,I.os,I.bare,⟨fun b o q n hb hx=>kp b o (out b o q) (I.base.keep b o q n hb hx),fun b o q n hb hx=> ?_,I.base.free,fun b o q hx=> ?_,I.base.tups,I.base.frzs,I.base.tbls⟩,⟨m,hn,fun i x v a1 a2 a3=> ?_⟩,fun x c z=>absurd z (hcl x c),I.free,I.freeC,fun p hp=> ?_,fun a o q=> ?_,by simp⟩
 ·obtain⟨sl,q1⟩:=I.base.slot b o q n hb hx
  exact⟨sl,kp b _ (out b o q) q1⟩
 ·obtain⟨o',q1⟩:=I.base.there b o q hx
  exact⟨o',kp b o' (out b o q) q1⟩
 ·rw [List.getElem?_replicate]at a2
  split at a2 <;> cases a2
 ·obtain⟨b1,b2,b3,b4,b5⟩:=I.pin p hp
  exact⟨kp p.1 p.2 b3 b1,b2,b3,b4,b5⟩
 ·have nl:∀ b u,H b=some u->b≠X.env.locals:=fun b u q z=>by rw [z,I.free]at q;cases q
  refine(I.hok a o q).stay (fun b u hb z=>kp b u ?_ z) (fun _ z=>z) fun _ _ z=>z
  rcases hb with rfl | hb
  ·exact nl _ _ q
  ·exact nl _ _ hb
end
def sTry (F:En->Rs Fl)(h:Str->Rs T)(ρ:En):Rs Fl:=match F ρ with
 | .err c=>match h c with
  | .ok t=> .ok (.rt t)
  | _=> .bad
 | r=>r
def SuiteOk (X:Cx)(i:Nat)(suite:List Stmt)(CE:Addr)(h:Str->Rs T):Prop:=
 ∀(c:Str) (C:Addr) (t:T),X.mg c=some (.ref C)->h c= .ok t->∃ bm,OX X.K C bm/\(Value.ref C::bm).contains (.ref CE)=true ∧
  ∀(e:Addr) (oe:Obj) (ev:Array Value),oe.cls= .ref C->oe.data= .fields ev->∀ (pins:List (Addr×Obj)) (s:Shared) (σ:L2.St) (H:Hp) (O:Ow) (Q:VK),Inv (cxS X e oe) pins σ H s->H e=none->e∉frs X.stack->σ[i]? =some (some (.ref e))->(∀p,H p=none->¬ O p) →
   (∀v H',Same H H'->Rep X.K O H' t v->Q v H')->wpAny (model X.prog X.w) (cxS X e oe).A (execs suite X.env) (SP (cxS X e oe) pins { nx:=fun _ _=>False,rt:=Q }) (fun _ _=>False) s
section
variable {X:Cx}
theorem Inv.repin {σ:L2.St}{H:Hp}{s:Shared}(pins:List (Addr×Obj))(I:Inv X pins σ H s):Inv { X with pn:=X.pn++pins } [] σ H s:=
 ⟨⟨I.ok.mod,I.ok.kind,I.ok.glob,I.ok.blt,I.ok.above,I.ok.inj,I.ok.has,I.ok.cab,I.ok.hd,I.ok.frames,I.ok.stk,I.ok.exf,I.ok.bs,I.ok.bsz,I.ok.noex,I.ok.exfs,I.ok.funs,I.ok.frf⟩,I.os,I.bare,I.base,I.loc,I.cell,I.free,I.freeC,fun p hp=>I.pin p (by rw [List.append_nil]at hp;exact hp),I.hok,I.len⟩
theorem Inv.unpin {σ:L2.St}{H:Hp}{s:Shared}{pins pins1:List (Addr×Obj)}{xe:Value->Shared->Prop}(I:Inv { X with pn:=X.pn++pins,xe:=xe } pins1 σ H s):Inv X pins σ H s:=
 ⟨⟨I.ok.mod,I.ok.kind,I.ok.glob,I.ok.blt,I.ok.above,I.ok.inj,I.ok.has,I.ok.cab,I.ok.hd,I.ok.frames,I.ok.stk,I.ok.exf,I.ok.bs,I.ok.bsz,I.ok.noex,I.ok.exfs,I.ok.funs,I.ok.frf⟩,I.os,I.bare,I.base,I.loc,I.cell,I.free,I.freeC,fun p hp=>I.pin p (List.mem_append_left _ hp),I.hok,I.len⟩
theorem qs_try {body suite:List Stmt}{b0:Stmt}{F:En->Rs Fl}{h:Str->Rs T}{ce n:Str}{CE:Addr}{bmE:List Value}{i:Nat}{np hpos pos:Pos}(hst:X.stack=X.env::X.outer)(hfe:X.env.frame=some X.env.locals)(hcl:∀ x c,X.env.cells.lookup x≠some c)(hex:X.ex= [])
  (hN:X.N.Nodup) (hi:X.N[i]? =some n) (hloc:X.env.scope.names.lookup n=some .local) (hm:X.mg ce=some (.ref CE)) (OE:OX X.K CE bmE)
  (hb:∀ pn xe,PSst { X with pn:=pn,xe:=xe } body F) (hs:SuiteOk X i (b0::suite) CE h) (hg:Gl X ce:=by rfl) (hd:(ce == ("__debug__" : Str))=false:=by decide) :
  PSt X (.Try body [.ExceptHandler (some (.Name ce np)) (some n) (b0::suite) hpos] [] [] pos) (sTry F h):=by
 intro pins s σ H D I ⟨ρ,B,M,E,hq⟩
 refine wpAny_Try_except ?_
 unfold sTry at hq
 cases q:F ρ with
 | bad=>rw [q]at hq;exact hq.elim
 | ok fl=>
  rw [q]at hq
  refine wpAny_mono (hb X.pn (fun _ _=>False) pins s σ H D (I.wish _) ⟨ρ,B,M,E,by rw [q];cases fl <;> exact hq⟩) (fun f s1 r=> ?_) (fun e s1 z=>z.elim)
  cases f with
  | next=>obtain⟨σ7,H7,I7,q7⟩:=r;exact wpAny_execs_nil ⟨σ7,H7,I7.wish _,q7⟩
  | ret u=>obtain⟨x7,σ7,H7,I7,r7,q7⟩:=r;exact⟨x7,σ7,H7,I7.wish _,r7,q7⟩
  | brk=>obtain⟨σ7,H7,I7,q7⟩:=r;exact⟨σ7,H7,I7.wish _,q7⟩
  | cont=>obtain⟨σ7,H7,I7,q7⟩:=r;exact⟨σ7,H7,I7.wish _,q7⟩
 | err c=>
  rw [q]at hq
  cases q2:h c with
  | bad=>simp only [q2]at hq;exact hq.elim
  | err c'=>simp only [q2]at hq;exact hq.elim
  | ok t=>
   simp only [q2]at hq
   have hq':∀ v H',SameO M.u H H'->Rep X.K B H' t v->D.rt v H':=hq
   refine wpAny_mono (hb (X.pn++pins) _ [] s σ H { nx:=fun _ _=>False,rt:=fun _ _=>False,bk:=fun _ _=>False,ct:=fun _ _=>False } ((Tr.Inv.repin pins I).wish _) ⟨ρ,B,M,E,?_⟩) (fun fl s' z=> ?_) fun _ _ z=>z
   rotate_left
   ·cases fl with
    | next=>obtain⟨_,_,_,z⟩:=z;exact z.elim
    | cont=>obtain⟨_,_,_,z⟩:=z;exact z.elim
    | brk=>obtain⟨_,_,_,z⟩:=z;exact z.elim
    | ret v=>obtain⟨_,_,_,_,_,z⟩:=z;exact z.elim
   rw [q]
   intro pins1 ev s1 w
   obtain⟨e,T,C,σ1,H1,rfl,hmc,I1,sm,he,heo,fl,hT,hpp⟩:=w
   have I1:Inv X pins σ1 H1 s1:=Tr.Inv.unpin (X:=X) I1
   have hpp:∀ p∈X.pn++pins,p.1≠e/\T≠some p.1:=fun p hp=>hpp p (List.mem_append_left _ hp)
   have heo:=heo hex
   have hT:∀ t,T=some t->H1 t=none/\X.s₀.heap.get? t=none:=fun t z=>⟨(hT t z).1,(hT t z).2 hex⟩
   show wpAny _ _ _ _ _ _
   have hfr:X.A.frames=some (X.env::X.outer):=by rw [<-hst];exact I1.ok.frames
   have hstk:s1.heap.FunFrames X.base (X.env::X.outer):=by rw [<-hst];exact I1.stack
   refine note1 hfr hstk hfe fl fun h' T' g=> ?_
   have I2:=Inv.gone I1 hst hfe hcl hex g he heo hT hpp
   have Tn:H1 T'=none/\X.s₀.heap.get? T'=none/\∀ p∈X.pn++pins,p.1≠T':=by
    rcases g.new with z | z
    ·exact⟨(hT T' z).1,(hT T' z).2,fun p hp y=>(hpp p hp).2 (by rw [z,y])⟩
    ·exact⟨no_track I1 z,no_old I1 hex z,fun p hp y=>by have:=(I1.pin p hp).1;rw [y,z]at this;cases this⟩
   obtain⟨bm,OC,hin,run⟩:=hs c C t hmc q2
   obtain⟨hTe,oe,ev,hoe,hoc,hod,h1,oT,ts,hoT,hdT,h3⟩:=g.flt
   have nfr:∀ b o vs,h'.get? b=some o->o.data= .fields vs->b∉(X.env::X.outer).filterMap (·.frame):=fun b o vs hb hd z=>by
    have:=I2.stack
    rw [hst]at this
    obtain⟨_,o',ho',hnf⟩:=this.mem z
    rw [show h'.get? b=some o' from ho']at hb
    cases hb
    exact hnf vs hd
   have hel:e≠X.env.locals:=fun z=>nfr e oe ev hoe hod (by rw [List.filterMap_cons,hfe];exact z▸List.mem_cons_self)
   have hef:e∉X.fs:=fun z=>nfr e oe ev hoe hod (by rw [List.filterMap_cons,hfe];exact List.mem_cons_of_mem _ z)
   have hcell:∀ v,oe.data≠ .cell v:=fun v z=>by rw [hod]at z;cases z
   have I3:Inv (cxS X e oe) pins σ1 H1 { s1 with heap:=h' }:=inv_cxS I2 hoe he hel hef hcell
   refine wpAny_handleBy_cons (codeAny_handlers_test (ld_glob (X:=cxS X e oe) I3 hg hm ?_ hd)) (by intro z;cases z)
   obtain⟨nm,qq,N,bs,hdct,sn,sub,ab,col,dd,k0,k1,k2,k3,k5,mN,hC,_⟩:=OC.at_ h' I3.kIn
   obtain⟨nm',qq',N',bs',hdct',sn',sub',ab',col',dd',k0',k1',k2',k3',k5',mN',hD,_,_,TD⟩:=OE.at_ h' I3.kIn
   refine match_own hC hD hoe hoc (TD.tail.hasType (by decide)) hin (codeAny_handlers_suite_as ?_)
   refine wpAny_setFlight_none hoe hod h1 hoT hdT (Array.getElem?_eq_some_iff.mp h3).1 ?_
   generalize hU:h'.update T' (Obj.mapFields (·.setIfInBounds 3 Value.none))=h2
   have kp:∀ b,b≠T'->h2.get? b=h'.get? b:=fun b hb=>by rw [<-hU];exact Heap.get?_update_other _ _ (Ne.symm hb)
   have hT2:h2.get? T'=some (Obj.mapFields (·.setIfInBounds 3 Value.none) oT):=by rw [<-hU];exact Heap.get?_update_self _ hoT (Obj.isFreed_of_fields (Obj.data_mapFields hdT _))
   have hoe2:h2.get? e=some oe:=(kp e (Ne.symm hTe)).trans hoe
   have g2:Gone ((X.env::X.outer).filterMap (·.frame)) C e (some T') h' h2 T':=⟨⟨hTe,oe,ev,hoe2,hoc,hod,h1,_,_,hT2,Obj.data_mapFields hdT _,by simp [(Array.getElem?_eq_some_iff.mp h3).1]⟩,.inl rfl,fun b o _ _ n3 q=>(kp b fun z=>n3 (by rw [z])).trans q,fun b o m q=>⟨o.slots,(kp b fun z=>nfr T' oT ts hoT hdT (z▸m)).trans q⟩⟩
   have I4:Inv X pins σ1 H1 { s1 with heap:=h2 }:=Inv.gone (s:={ s1 with heap:=h' }) I2 hst hfe hcl hex g2 he heo (fun t z=>by cases z;exact⟨Tn.1,Tn.2.1⟩) fun p hp=>⟨(hpp p hp).1,fun z=>Tn.2.2 p hp (Option.some.inj z).symm⟩
   have I5:Inv (cxS X e oe) pins σ1 H1 { s1 with heap:=h2 }:=inv_cxS I4 hoe2 he hel hef hcell
   refine store_ok (X:=cxS X e oe) (v:=.ref e) I5 hN hi (.inl hloc) rfl (fun s3 I6=> ?_) (.inr hloc)
   have hil:i<σ1.length:=by
    rw [I1.len]
    exact(List.getElem?_eq_some_iff.mp hi).1
   refine wpAny_mono (run e oe ev hoc hod pins s3 _ H1 B (fun v H'=>Same H1 H'/\Rep X.K B H' t v) I6 he (fun z=> ?_) (by simp [hil]) (fun p hp z=> ?_) fun v H' s' r=>⟨s',r⟩) (fun f s4 r=> ?_) fun _ _ z=>z.elim
   ·rw [hst]at z
    exact nfr e oe ev hoe hod z
   ·obtain⟨o,ho⟩:=(E.env.trk p (.inl z)).some
    have:=sm p o ho (fun w=>E.mine p w z)
    rw [hp]at this;cases this
   ·cases f with
    | next=>obtain⟨_,_,_,z⟩:=r;exact z.elim
    | brk=>obtain⟨_,_,_,z⟩:=r;exact z.elim
    | cont=>obtain⟨_,_,_,z⟩:=r;exact z.elim
    | ret u=>
     obtain⟨v,σ',H',I7,rv,s',rt⟩:=r
     obtain⟨m,hn,_⟩:=I7.loc
     refine wpAny_nameGoes (show X.env.kindOf n=some .local from hloc) hn (by rw [I.ok.kind];rfl) fun h8 m8 hn8 hs8=> ?_
     exact⟨v,_,H',Inv.forget (inv_unS I.ok I7) hcl hn8 hs8,rv,hq' v H' (fun b o y nn=>s' b o (sm b o y nn)) rt⟩
end
section
variable {X:Cx}{e C:Addr}{oe:Obj}{bm:List Value}
theorem boot_V:bootBuiltins "ValueError" =some (.type "ValueError"):=by decide+kernel
theorem pe_isV {en:Str}{p p1 p2 pos:Pos}(hN:X.N[0]? =some en)(hv:Vis X.env.scope en)(hp:(e,oe)∈X.pn)(hc:oe.cls= .ref C)(OC:OX X.K C bm)
  (hm:X.mg "isinstance" =none) (hmD:X.mg "ValueError" =none) (hg:Gl X "isinstance":=by rfl) (hgD:Gl X "ValueError":=by rfl) (hde:(en == ("__debug__" : Str))=false:=by decide) (hce:(en == ("__classdict__" : Str))=false:=by decide)
  (he:starEach [.Name en p1,.Name "ValueError" p2] X.env=(false,eval (.Name en p1) X.env)::starEach [.Name "ValueError" p2] X.env:=by rfl) (hpl:(backTo pos (starEach [.Name "ValueError" p2] X.env)).any (·.1)=false:=by rfl)
  (hs:starEach [.Name "ValueError" p2] X.env=(false,eval (.Name "ValueError" p2) X.env)::starEach [] X.env:=by rfl) :
  PE X (.Call (.Name "isinstance" p) [.Name en p1,.Name "ValueError" p2] [] pos) (tIs e true):=by
 intro pins s σ H Q I ⟨hσ,q⟩
 refine wpAny_Call_Name_kw (fN I hg hm eU ?_ (by decide) (by decide))
 have hA:PA X [.Name en p1,.Name "ValueError" p2] (fV (tVar 0) (fV (tC (.ty "ValueError")) tNil)):=a6 (gy hN hv hde hce) (a6 (pe_bltn (v:=.ty "ValueError") hgD hmD boot_V rfl) db hs) he
 refine PyProof.Rows.callWith_builtin1 (bK (hA pos pins s σ H (fun vs H'=>vs= [.ref e,.ty "ValueError"]/\H'=H) I ⟨.ref e,hσ,rfl,rfl⟩) fun us s1 ⟨vs,H1,I1,r1,e1,e2⟩=> ?_) he hpl
 subst e1
 obtain⟨u,w',rfl,ru,rw'⟩:=vals2 r1
 cases ru
 cases rw'
 subst e2
 exact isV_call hp hc OC I1 q
end
def strKey:Value->Bool
 | .str _ _=>true
 | _=>false
theorem ns_of {K:PySem.W.Frag}{N:Addr}{ob:Value}{oe:Option Addr}{es:Array DictEntry}{n:Nat}{oz:Array (Option Value)}(r:K.lookup N=some ⟨ob,oe,.dict es n,oz⟩)(s:(es.toList.all fun e=>strKey e.key)=true)
  (u0:PySem.W.nsIn K N "__init__" =some none) (u1:PySem.W.nsIn K N "__getattribute__" =some none) (u2:PySem.W.nsIn K N "__getattr__" =some none) (u3:PySem.W.nsIn K N "__class__" =some none) :
  ∀h:Heap,K.In h->∃ mN,h.Ns N mN/\∀ n∈calmNames,mN n=none:=fun h k=>by
 refine⟨nsFind es,⟨_,es,n,k _ _ r,rfl,fun e he=> ?_,fun _=>rfl⟩,fun x hx=> ?_⟩
 ·have:=List.all_eq_true.mp s e (by simpa using he)
  cases q:e.key <;> rw [q]at this <;> first | exact⟨_,_,rfl⟩ | cases this
 ·have key:∀ x,PySem.W.nsIn K N x=some none->nsFind es x=none:=fun x u=>by
   unfold PySem.W.nsIn at u
   rw [r]at u
   simp only at u
   split at u
   ·cases u
   ·rename_i he
    unfold nsFind findBy
    rw [<-Array.find?_toList,he];rfl
  unfold calmNames at hx
  simp only [List.mem_cons,List.not_mem_nil,or_false]at hx
  rcases hx with rfl | rfl | rfl | rfl
  ·exact key _ u0
  ·exact key _ u1
  ·exact key _ u2
  ·exact key _ u3
section
variable {K:PySem.W.Frag}{nm q:Str}{C N:Addr}{bs:List Value}{hdct:Bool}{sn:List Str}{sub:List Value}{ab:Bool}{col:Option Bool}{dd:Option Addr}{k0 k1 k2 k3 k5:Option Value}
variable {nm' q':Str}{D N':Addr}{bs':List Value}{hdct':Bool}{sn':List Str}{sub':List Value}{ab':Bool}{col':Option Bool}{dd':Option Addr}{k0' k1' k2' k3' k5':Option Value}
theorem ox_base (w:K.lookup C=some (excClassObj nm q C N bs bmV hdct sn sub ab col dd k0 k1 k2 k3 k5 "ValueError.__new__"))(ns:∀ h:Heap,K.In h->∃ mN,h.Ns N mN/\∀ n∈calmNames,mN n=none):OX K C bmV:=⟨fun h k=>by
 obtain⟨mN,h1,h2⟩:=ns h k
 exact⟨nm,q,N,bs,hdct,sn,sub,ab,col,dd,k0,k1,k2,k3,k5,mN,k _ _ w,h1,h2,.base⟩⟩
theorem ox_under (w:K.lookup C=some (excClassObj nm q C N bs (.ref D::bmV) hdct sn sub ab col dd k0 k1 k2 k3 k5 "ValueError.__new__"))(ns:∀ h:Heap,K.In h->∃ mN,h.Ns N mN/\∀ n∈calmNames,mN n=none)
  (wD:K.lookup D=some (excClassObj nm' q' D N' bs' bmV hdct' sn' sub' ab' col' dd' k0' k1' k2' k3' k5' "ValueError.__new__")) (nsD:∀ h:Heap,K.In h->∃ mN,h.Ns N' mN/\∀ n∈calmNames,mN n=none):OX K C (.ref D::bmV):=⟨fun h k=>by
 obtain⟨mN,h1,h2⟩:=ns h k
 obtain⟨mD,d1,d2⟩:=nsD h k
 exact⟨nm,q,N,bs,hdct,sn,sub,ab,col,dd,k0,k1,k2,k3,k5,mN,k _ _ w,h1,h2,.own (k _ _ wD) d1 d2 .base⟩⟩
end
theorem room3 {k:Nat}{A:Around}(h:Room k A):A.depth+3<recursionLimit:=by have:=h.dp;omega
end Tr
namespace L2
open PySem PySem.Spec PyProof.Rows
section
variable {κ:Type}[DecidableEq κ]
def valV (kvs:List (κ×V))(k:κ):Option V:=(kvs.find? fun kv=>decide (kv.1=k)).map (·.2)
def cP (kvs:List (κ×V))(k:κ)(v:V):List (κ×V):=
 if (kvs.any fun kv=>decide (kv.1=k))=true then kvs.map (fun kv=>if kv.1=k then(kv.1,v)else kv)else kvs++ [(k,v)]
theorem valV_nil {k:κ}:valV ([]:List (κ×V)) k=none:=rfl
theorem fA {p:κ×V}{r:List (κ×V)}{k:κ}(e:p.1=k):valV (p::r) k=some p.2:=by simp [valV,List.find?_cons,e]
theorem fB {p:κ×V}{r:List (κ×V)}{k:κ}(e:¬ p.1=k):valV (p::r) k=valV r k:=by simp [valV,List.find?_cons,e]
theorem valV_any (k:κ):∀ kvs:List (κ×V),(kvs.any fun kv=>decide (kv.1=k))=(valV kvs k).isSome
 | [] =>rfl
 | p::r=>by
  rw [List.any_cons]
  by_cases e:p.1=k
  ·simp only [fA e,decide_eq_true e,Bool.true_or,Option.isSome_some]
  ·rw [fB e,decide_eq_false e,Bool.false_or];exact valV_any k r
theorem fZ (kvs:List (κ×V))(k:κ)(v:V):(cP kvs k v).length<=kvs.length+1:=by
 unfold cP
 split
 ·rw [List.length_map];omega
 ·rw [List.length_append,List.length_cons,List.length_nil];omega
theorem RelO.isSome_eq {o:Option V}{u:Option Value}(r:RelO o u):o.isSome=u.isSome:=by
 cases o with
 | none=>cases u with
  | none=>rfl
  | some _=>exact(show False from r).elim
 | some _=>cases u with
  | none=>exact(show False from r).elim
  | some _=>rfl
theorem RelO.getD {o:Option V}{u:Option Value}{d:V}{d':Value}(r:RelO o u)(rd:RelV d d'):RelV (o.getD d) (u.getD d'):=by
 cases o with
 | none=>cases u with
  | none=>exact rd
  | some _=>exact(show False from r).elim
 | some _=>cases u with
  | none=>exact(show False from r).elim
  | some _=>exact r
theorem KV.val {kvs:List (κ×V)}{vs:List (κ×Value)}(r:KV kvs vs)(k:κ):RelO (valV kvs k) (valueAt vs k):=by
 unfold KV at r
 induction r with
 | nil=>exact True.intro
 | @cons p q ps qs h t ih=>
  obtain⟨h1,h2⟩:=h
  by_cases e:p.1=k
  ·have e':q.1=k:=h1.symm.trans e
   have b:valueAt (q::qs) k=some q.2:=by simp [valueAt,List.find?_cons,e']
   rw [fA e,b];exact h2
  ·have e':¬ q.1=k:=fun z=>e (h1.trans z)
   have b:valueAt (q::qs) k=valueAt qs k:=by simp [valueAt,List.find?_cons,e']
   rw [fB e,b];exact ih
theorem KV.any {kvs:List (κ×V)}{vs:List (κ×Value)}(r:KV kvs vs)(k:κ):(kvs.any fun kv=>decide (kv.1=k))=vs.any fun kv=>decide (kv.1=k):=by
 unfold KV at r
 induction r with
 | nil=>rfl
 | cons h t ih=>rw [List.any_cons,List.any_cons,ih,h.1]
theorem KV.repl {kvs:List (κ×V)}{vs:List (κ×Value)}(r:KV kvs vs)(k:κ){y:V}{u:Value}(ry:RelV y u) :
  KV (kvs.map fun kv=>if kv.1=k then(kv.1,y)else kv) (vs.map fun kv=>if kv.1=k then(kv.1,u)else kv):=by
 unfold KV at r ⊢
 induction r with
 | nil=>exact .nil
 | @cons p q ps qs h t ih=>
  rw [List.map_cons,List.map_cons]
  refine .cons ?_ ih
  obtain⟨h1,h2⟩:=h
  by_cases e:p.1=k
  ·rw [if_pos e,if_pos (h1.symm.trans e)];exact⟨h1,ry⟩
  ·rw [if_neg e,if_neg (fun z=>e (h1.trans z))];exact⟨h1,h2⟩
theorem KV.put {kvs:List (κ×V)}{vs:List (κ×Value)}(r:KV kvs vs)(k:κ){y:V}{u:Value}(ry:RelV y u):KV (cP kvs k y) (stored vs k u):=by
 unfold cP stored
 rw [r.any k]
 by_cases e:(vs.any fun kv=>decide (kv.1=k))=true
 ·rw [if_pos e,if_pos e];exact r.repl k ry
 ·rw [if_neg e,if_neg e];exact Paired.snoc r ⟨rfl,ry⟩
theorem KV.length {kvs:List (κ×V)}{vs:List (κ×Value)}(r:KV kvs vs):kvs.length=vs.length:=Paired.length r
end
theorem kV_is {P:Program}{w:World}{k:Key}{u:Value}(r:RelV (kV k) u):(ci P w).is k u=true:=by
 cases k with
 | inl i=>obtain⟨t,e⟩:=(show ∃t,u=Value.int i t from r);subst e;exact mixKind_int P w i t
 | inr x=>obtain⟨t,e⟩:=(show ∃t,u=Value.str x t from r);subst e;exact mixKind_str P w x t
theorem items_are {P:Program}{w:World}:∀ {ks:List Key} {us:List Value},Vals (ks.map kV) us->ItemsAre (ci P w) ks us
 | [],_,r=>by rw [List.map_nil]at r;cases r;exact .nil
 | k::ks,_,r=>by
  rw [List.map_cons]at r
  cases r with
  | cons h t=>exact .cons (kV_is h) (items_are t)
abbrev KT (H:Hp):List (List Key×V)->List (List Key×Addr×Value)->Prop:=Paired fun p q=>p.1=q.1/\H q.2.1=some (.tup (p.1.map kV))/\RelV p.2 q.2.2
theorem KT.val {H:Hp}{kvs:List (List Key×V)}{xs:List (List Key×Addr×Value)}(r:KT H kvs xs)(k:List Key):RelO (valV kvs k) ((atKey xs k).map (·.2)):=by
 induction r with
 | nil=>exact True.intro
 | @cons p q ps qs h t ih=>
  obtain⟨h1,_,h2⟩:=h
  by_cases e:p.1=k
  ·have e':q.1=k:=h1.symm.trans e
   have b:atKey (q::qs) k=some q.2:=by simp [atKey,List.find?_cons,e']
   rw [fA e,b];exact h2
  ·have e':¬ q.1=k:=fun z=>e (h1.trans z)
   have b:atKey (q::qs) k=atKey qs k:=by simp [atKey,List.find?_cons,e']
   rw [fB e,b];exact ih
theorem KT.repl {H:Hp}{kvs:List (List Key×V)}{xs:List (List Key×Addr×Value)}(r:KT H kvs xs)(k:List Key){y:V}{u:Value}(ry:RelV y u) :
  KT H (kvs.map fun kv=>if kv.1=k then(kv.1,y)else kv) (xs.map (putAt k u)):=by
 induction r with
 | nil=>exact .nil
 | @cons p q ps qs h t ih=>
  rw [List.map_cons,List.map_cons]
  refine .cons ?_ ih
  obtain⟨h1,h2,h3⟩:=h
  unfold putAt
  by_cases e:p.1=k
  ·rw [if_pos e,if_pos (h1.symm.trans e)];exact⟨h1,h2,ry⟩
  ·rw [if_neg e,if_neg (fun z=>e (h1.trans z))];exact⟨h1,h2,h3⟩
theorem KT.put {H:Hp}{kvs:List (List Key×V)}{xs:List (List Key×Addr×Value)}(r:KT H kvs xs)(k:List Key){b:Addr}{y:V}{u:Value}(hb:H b=some (.tup (k.map kV)))(ry:RelV y u) :
  KT H (cP kvs k y) (storedH xs k b u):=by
 have e:(kvs.any fun kv=>decide (kv.1=k))=(atKey xs k).isSome:=by
  rw [valV_any,(r.val k).isSome_eq,Option.isSome_map]
 unfold cP storedH
 rw [e]
 by_cases q:(atKey xs k).isSome=true
 ·rw [if_pos q,if_pos q];exact r.repl k ry
 ·rw [if_neg q,if_neg q];exact Paired.snoc r ⟨rfl,hb,ry⟩
theorem KT.keeps {H H':Hp}{kvs:List (List Key×V)}{xs:List (List Key×Addr×Value)}(r:KT H kvs xs)(ht:∀ b ys,H b=some (.tup ys)->H' b=some (.tup ys)):KT H' kvs xs:=
 Paired.mapP r fun _ _ z=>⟨z.1,ht _ _ z.2.1,z.2.2⟩
section
variable {P:Program}{w:World}{H:Hp}{h:Heap}{a:Addr}
theorem rd_of {u:HO}(ok:HOk P w H h)(e:Rd H a u):ObjOk P w H h a u:=e.ok ok
theorem dk_rd {kvs:List (Key×V)}(ok:HOk P w H h)(e:Rd H a (.dK kvs)):kvs.length<=sizeLine/\(a == sysModules)=false/\∃ vs,KV kvs vs/\h.DictOf (ci P w) a vs:=
 show ObjOk P w H h a (.dK kvs)from rd_of ok e
theorem dk_of {kvs:List (Key×V)}(ok:HOk P w H h)(e:H a=some (.dK kvs)):kvs.length<=sizeLine/\(a == sysModules)=false/\∃ vs,KV kvs vs/\h.DictOf (ci P w) a vs:=dk_rd ok (.inl e)
theorem key_of {ks:List Key}(ok:HOk P w H h)(e:H a=some (.tup (ks.map kV))):(tupleKind (ci P w)).is h ks a:=by
 obtain⟨_,its,r,o,h1,h2,n,h3⟩:=(show ObjOk P w H h a (.tup (ks.map kV))from ok a _ e)
 exact⟨o,its.toArray,n,h1,h2,h3,by simpa using items_are r⟩
theorem dt_rd {kvs:List (List Key×V)}(ok:HOk P w H h)(e:Rd H a (.dT kvs)):kvs.length<=sizeLine/\(a == sysModules)=false ∧
  ∃xs,KT H kvs xs/\h.DictOfH (tupleKind (ci P w)) a xs:=by
 obtain⟨z,y,xs,r,o,es,ep,h1,h2,h3,h4,h5⟩:=(show ObjOk P w H h a (.dT kvs)from rd_of ok e)
 refine⟨z,y,xs,r,o,es,ep,h1,h2,h3,h4,fun x hx=> ?_,h5⟩
 have all:∀ {l:List (List Key×V)} {m:List (List Key×Addr×Value)},KT H l m->∀ x∈m,(tupleKind (ci P w)).is h x.1 x.2.1:=by
  intro l m q
  induction q with
  | nil=>intro x hx;exact nomatch hx
  | @cons p q ps qs hq t ih=>
   intro x hx
   rcases List.mem_cons.mp hx with e | hx
   ·subst e
    exact key_of ok (by rw [<-hq.1];exact hq.2.1)
   ·exact ih x hx
 exact all r x hx
theorem dt_of {kvs:List (List Key×V)}(ok:HOk P w H h)(e:H a=some (.dT kvs)):kvs.length<=sizeLine/\(a == sysModules)=false ∧
  ∃xs,KT H kvs xs/\h.DictOfH (tupleKind (ci P w)) a xs:=dt_rd ok (.inl e)
end
def DGet (H:Hp)(a:Addr)(y:V)(r:Option V):Prop:=
 (∃kvs k,Rd H a (.dK kvs)/\y=kV k/\r=valV kvs k)\/∃ kvs k b,Rd H a (.dT kvs)/\y= .ref b/\H b=some (.tup (k.map kV))/\r=valV kvs k
def DPut (H:Hp)(a:Addr)(y v:V)(H':Hp):Prop:=
 (∃kvs k,H a=some (.dK kvs)/\y=kV k/\kvs.length<sizeLine/\H'=upd H a (.dK (cP kvs k v))) ∨
 ∃kvs k b,H a=some (.dT kvs)/\y= .ref b/\H b=some (.tup (k.map kV))/\kvs.length<sizeLine/\H'=upd H a (.dT (cP kvs k v))
theorem DGet.t {H:Hp}{a b:Addr}{kvs:List (List Key×V)}{k:List Key}(e:H a=some (.dT kvs))(eb:H b=some (.tup (k.map kV))):DGet H a (.ref b) (valV kvs k):=.inr ⟨kvs,k,b,.inl e,rfl,eb,rfl⟩
theorem DPut.t {H:Hp}{a b:Addr}{kvs:List (List Key×V)}{k:List Key}{v:V}(e:H a=some (.dT kvs))(eb:H b=some (.tup (k.map kV)))(hl:kvs.length<sizeLine) :
  DPut H a (.ref b) v (upd H a (.dT (cP kvs k v))):=.inr ⟨kvs,k,b,e,rfl,eb,hl,rfl⟩
section
variable {X:Cx}{pins:List (Addr×Obj)}{σ:St}{H:Hp}{s:Shared}{a:Addr}{y v:V}{u r:Value}{o:Option V}{A:Around}{E:Value->Shared->Prop}
theorem Inv.big (I:Inv X pins σ H s):sysModules<s.heap.objs.size:=by
 have h:mainGlobals<s.heap.objs.size:=(I.mod.glob.keeps I.bk).lt
 exact Nat.lt_trans (by decide) h
theorem d_getItem {Q:Value->Shared->Prop}(hu:A.units+1<cLine)(I:Inv X pins σ H s)(g:DGet H a y (some v))(ry:RelV y u)(h:∀ w' s',Inv X pins σ H s'->RelV v w'->Q w' s') :
  wpAny (model X.prog X.w) A (getItem (.ref a) u) Q E s:=by
 rcases g with⟨kvs,k,e,ey,l⟩ | ⟨kvs,k,b,e,ey,eb,l⟩
 ·subst ey
  obtain⟨z,hd,vs,rel,dd⟩:=dk_rd I.hok e
  obtain⟨w',hw,rw'⟩:=RelO.some_of (v:=v) (o:=valueAt vs k) (by rw [l];exact rel.val k)
  exact wpAny_getItem_of (kV_is ry) dd.mapOf hw (h w' _ (I.tok _) rw')
 ·subst ey
  cases (show u=Value.ref b from ry)
  obtain⟨z,hd,xs,rel,dd⟩:=dt_rd I.hok e
  obtain⟨w',hw,rw'⟩:=RelO.some_of (v:=v) (o:=(atKey xs k).map (·.2)) (by rw [l];exact rel.val k)
  obtain⟨p,hp,hp2⟩:=Option.map_eq_some_iff.mp hw
  refine wpAny_getItem_heap (tupleKind_room_in1 hu) (key_of I.hok eb) dd hp ?_
  rw [hp2]
  exact h w' _ (I.tok _) rw'
theorem d_write {h':Heap}{t':Nat}{ob:HO}(I:Inv X pins σ H s)(mu:Mut (H a))(hs:Heap.SameBut a s.heap h')(he:∃ q,h'.get? a=some q)(new:ObjOk X.prog X.w (upd H a ob) h' a ob) :
  Inv X pins σ (upd H a ob) { s with heap:=h',toks:=t' }:=
 I.write (x:=a) (e:=a) mu (.inl rfl) (fun b q hb z=>(hs.2 b hb).trans z) he new
theorem dk_new {P:Program}{w:World}{H':Hp}{h':Heap}{kvs:List (Key×V)}{vs:List (Key×Value)}(z:kvs.length<=sizeLine)(hd:(a == sysModules)=false)(rel:KV kvs vs)(dd:h'.DictOf (ci P w) a vs) :
  ObjOk P w H' h' a (.dK kvs):=⟨z,hd,vs,rel,dd⟩
theorem d_setItem {H':Hp}{Q:Unit->Shared->Prop}(hu:A.units+1<cLine)(I:Inv X pins σ H s)(g:DPut H a y v H')(ry:RelV y u)(rv:RelV v r)(h:∀ s',Inv X pins σ H' s'->Q () s') :
  wpAny (model X.prog X.w) A (setItem (.ref a) u r) Q E s:=by
 rcases g with⟨kvs,k,e,ey,l,eH⟩ | ⟨kvs,k,b,e,ey,eb,l,eH⟩
 ·subst ey eH
  obtain⟨z,hd,vs,rel,dd⟩:=dk_of I.hok e
  have hz:vs.length<=sizeLine:=by rw [<-rel.length];exact z
  have hl:(cP kvs k v).length<=sizeLine:=by have:=fZ kvs k v;omega
  refine wpAny_setItem_pairs (hsz:=hz) (kV_is ry) dd fun h' dd' hs=>h _ ?_
  have he:∃ q,h'.get? a=some q:=let ⟨q,_,_,hq,_⟩:=dd';⟨q,hq⟩
  exact d_write I (by rw [e];exact True.intro) hs he (dk_new hl hd (rel.put k rv) dd')
 ·subst ey eH
  cases (show u=Value.ref b from ry)
  obtain⟨z,hd,xs,rel,dd⟩:=dt_of I.hok e
  have hz:xs.length<=sizeLine:=by rw [<-Paired.length rel];exact z
  have hl:(cP kvs k v).length<=sizeLine:=by have:=fZ kvs k v;omega
  refine wpAny_setItem_heap (hsz:=hz) (tupleKind_room_in1 hu) (key_of I.hok eb) dd fun h' dd' hs=>h _ ?_
  obtain⟨q,es,ep,hq,h2,h3,h4,_,h5⟩:=dd'
  refine d_write I (by rw [e];exact True.intro) hs ⟨q,hq⟩ ⟨hl,hd,_,(rel.put k eb rv).keeps fun c ys ec=> ?_,q,es,ep,hq,h2,h3,h4,h5⟩
  rw [aA (ne_of ec e (fun z=>nomatch z))]
  exact ec
end
def NoSl (i:Expr):Prop:=∀ ov iv,subscripted i false ov iv=operate [ov,iv] (getItem ov iv)
theorem subD_of {prog:Program}{w:World}{A:Around}{E:Value->Shared->Prop}{s:Shared}{env:Env}{value slice:Expr}{pos:Pos}{T id:String}{Q:Value->Shared->Prop}
  (hl:typeLookup (.type T) "__getitem__" =pure (some (.builtin id))) (hs:NoSl slice)
  (h:wpAny (model prog w) A (eval value env) (fun o s₁=>wpAny (model prog w) A (eval slice env) (fun i s₂=>s₂.TypeIs o T/\wpAny (model prog w) A (getItem o i) Q E s₂) E s₁) E s) :
  wpAny (model prog w) A (eval (.Subscript value slice pos) env) Q E s:=by
 refine Subscript_ (wpAny_mono h (fun o s₁ h₁=>wpAny_mono h₁ (fun i s₂ h₂=> ?_) fun _ _ x=>x) fun _ _ x=>x)
 obtain⟨hT,h₂⟩:=h₂
 unfold subscriptTail
 refine wpAny_bind ?_
 rw [getitemInPython_of_ne hT.not_modules]
 refine wpAny_bind (wpAny_specialOf hT hl ?_)
 have fin:wpAny (model prog w) A (subscripted slice false o i) (fun r s₃=>wpAny (model prog w) A (letTemporaryGo value o r >>= fun _=>pure r) Q E s₃) E s₂:=by
  rw [hs o i]
  exact wpAny_operating (wpAny_mono h₂ (fun r s₃ h₃=>wpAny_bind (wpAny_letTemporaryGo (wpAny_pure h₃))) fun _ _ x=>x)
 first
  | exact wpAny_pure (wpAny_bind fin)
  | exact wpAny_bind (wpAny_pure (wpAny_bind fin))
  | exact wpAny_bind fin
theorem dict_typeIs {X:Cx}{pins:List (Addr×Obj)}{σ:St}{H:Hp}{s:Shared}{a:Addr}{y:V}{o:Option V}(I:Inv X pins σ H s)(g:DGet H a y o):s.TypeIs (.ref a) "dict":=by
 rcases g with⟨kvs,k,e,_,_⟩ | ⟨kvs,k,b,e,_,_,_⟩
 ·obtain⟨_,_,vs,_,dd⟩:=dk_rd I.hok e
  exact dd.typeIs
 ·obtain⟨_,_,xs,_,dd⟩:=dt_rd I.hok e
  exact dd.typeIs
def tDGet (td ty:TE):TE:=fun σ H Q=>td σ H fun x H1=>ty σ H1 fun y H2=> ∃a v,x= .ref a/\DGet H2 a y (some v)/\Q v H2
def sDPut (td ty tv:TE):TS:=fun D σ H=>tv σ H fun v H1=>td σ H1 fun x H2=>ty σ H2 fun y H3=> ∃a H4,x= .ref a/\DPut H3 a y v H4/\D.nx σ H4
section
variable {X:Cx}{o i e value:Expr}{pos pos' tpos:Pos}{td ty tv:TE}
theorem pe_dget (hu:X.A.units+1<cLine)(ho:PE X o td)(hi:PE X i ty)(hs:NoSl i):PE X (.Subscript o i pos) (tDGet td ty):=by
 intro pins s σ H Q I h
 refine subD_of PySem.F.slot_dict_getitem.lookup hs (bK (ho pins s σ H _ I h) fun u s1 ⟨x,H1,I1,rx,q1⟩=>bK (hi pins s1 σ H1 _ I1 q1) fun iv s2 hh_=> ?_)
 obtain⟨y,H2,I2,ry,a,v,ex,g,q2⟩:=hh_
 subst ex
 obtain rfl:u=Value.ref a:=rx
 exact⟨dict_typeIs I2 g,d_getItem hu I2 g ry fun w' s3 I3 rw'=>⟨v,H2,I3,rw',q2⟩⟩
theorem ps_dput (hu:X.A.units+1<cLine)(ho:PE X o td)(hi:PE X i ty)(hv:PE X value tv)(hs:swapsWith value (some (.Subscript o i pos')) pos.line X.env=pure false) :
  PS X (.Assign [.Subscript o i pos'] value pos) (sDPut td ty tv):=by
 intro pins s σ H D I h
 refine wpAny_Assign_Subscript (bK (hv pins s σ H _ I h) fun r s1 ⟨v,H1,I1,rv,q1⟩=>bK (ho pins s1 σ H1 _ I1 q1) fun u s2 ⟨x,H2,I2,rx,q2⟩=>bK (hi pins s2 σ H2 _ I2 q2) fun iv s3 ⟨y,H3,I3,ry,a,H4,ex,g,q3⟩=> ?_) hs
 subst ex
 obtain rfl:u=Value.ref a:=rx
 exact d_setItem hu I3 g ry rv fun s4 I4=>⟨σ,H4,I4,q3⟩
end
theorem dt_empty {P:Program}{w:World}{H:Hp}(h:Heap)(hb:sysModules<h.objs.size):ObjOk P w H (h.push { cls:=.type "dict",data:=.dict #[] }) h.objs.size (.dT []):=
 ⟨Nat.zero_le _,beq_eq_false_iff_ne.mpr (Ne.symm (Nat.ne_of_lt hb)),[],.nil,_,#[],0,Heap.get?_push_size _ rfl,⟨rfl,rfl,rfl⟩,rfl,rfl,List.nodup_nil⟩
structure M1 (X:Cx)(o:Expr)(m:Str)(apos:Pos)(e:Expr)(cpos:Pos):Prop where
 base:attributeBase o m X.env (eval o X.env)=eval o X.env
 few:((backTo cpos (starEach [e] X.env)).all (fun x=> !x.1)&&(backToKw cpos (keywordEach [] X.env)).all (fun x=>x.1.isSome)
  &&decide (([e]:List Expr).length+([]:List Keyword).length+(if ([]:List Keyword).isEmpty then 0 else 1)<30))=true
 line:(apos.endLine == cpos.line)=true
 trees:backTo cpos (starEach [e] X.env)= [(false,eval e X.env)]
structure M2 (X:Cx)(o:Expr)(m:Str)(apos:Pos)(e f:Expr)(cpos:Pos):Prop where
 base:attributeBase o m X.env (eval o X.env)=eval o X.env
 few:((backTo cpos (starEach [e,f] X.env)).all (fun x=> !x.1)&&(backToKw cpos (keywordEach [] X.env)).all (fun x=>x.1.isSome)
  &&decide (([e,f]:List Expr).length+([]:List Keyword).length+(if ([]:List Keyword).isEmpty then 0 else 1)<30))=true
 line:(apos.endLine == cpos.line)=true
 trees:backTo cpos (starEach [e,f] X.env)= [(false,eval e X.env),(false,eval f X.env)]
def IsD (H:Hp)(a:Addr):Prop:=(∃kvs,Rd H a (.dK kvs))\/∃ kvs,Rd H a (.dT kvs)
theorem isD_at {X:Cx}{pins:List (Addr×Obj)}{σ:St}{H:Hp}{s:Shared}{a:Addr}(I:Inv X pins σ H s)(d:IsD H a) :
  s.TypeIs (.ref a) "dict"/\(∀b,Value.ref a= .ref b->∃ ob,s.heap.get? b=some ob/\ob.dict=none)/\(a == sysModules)=false:=by
 rcases d with⟨kvs,e⟩ | ⟨kvs,e⟩
 ·obtain⟨_,hd,vs,_,dd⟩:=dk_rd I.hok e
  refine⟨dd.typeIs,fun b q=> ?_,hd⟩
  cases q
  obtain⟨ob,_,_,h1,h2,_⟩:=dd
  exact⟨ob,h1,h2.2.1⟩
 ·obtain⟨_,hd,xs,_,dd⟩:=dt_rd I.hok e
  refine⟨dd.typeIs,fun b q=> ?_,hd⟩
  cases q
  obtain⟨ob,_,_,h1,h2,_⟩:=dd
  exact⟨ob,h1,h2.2.1⟩
section
variable {X:Cx}{pins:List (Addr×Obj)}{σ:St}{H:Hp}{s:Shared}{a:Addr}{y d:V}{u r:Value}{o:Option V}{A:Around}{E:Value->Shared->Prop}
theorem d_get1 {Q:Value->Shared->Prop}(hu:A.units+1<cLine)(I:Inv X pins σ H s)(g:DGet H a y o)(ry:RelV y u)(h:∀ w' s',Inv X pins σ H s'->RelV (o.getD .non) w'->Q w' s') :
  wpAny (model X.prog X.w) A (call (.builtin "dict.get") [.ref a,u]) Q E s:=by
 rcases g with⟨kvs,k,e,ey,l⟩ | ⟨kvs,k,b,e,ey,eb,l⟩
 ·subst ey
  obtain⟨z,hd,vs,rel,dd⟩:=dk_rd I.hok e
  refine call_meetsIn PySem.F.slot_dict_get dd.typeIs PySem.F.entry_dict_get (PySem.F.args_dict_get_2 _ _) (meets_dict_get (ci X.prog X.w) a (kV_is ry) hd) ⟨_,dd.mapOf,h _ _ (I.tok _) ?_⟩
  rw [l]
  exact(rel.val k).getD rfl
 ·subst ey
  cases (show u=Value.ref b from ry)
  obtain⟨z,hd,xs,rel,dd⟩:=dt_rd I.hok e
  refine call_meetsIn PySem.F.slot_dict_get dd.typeIs PySem.F.entry_dict_get (PySem.F.args_dict_get_2 _ _) (meetsH_dict_get (tupleKind (ci X.prog X.w)) a b hd) ⟨tupleKind_room_in1 hu,k,xs,key_of I.hok eb,dd,h _ _ (I.tok _) ?_⟩
  rw [l]
  exact(rel.val k).getD rfl
end
def tDGet1 (td ty:TE):TE:=fun σ H Q=>td σ H fun x H1=> ∃a,x= .ref a/\IsD H1 a/\ty σ H1 fun y H2=> ∃o,DGet H2 a y o/\Q (o.getD .non) H2
section
variable {X:Cx}{o e f:Expr}{apos cpos:Pos}{td ty tx:TE}
theorem pe_dget1 (hu:X.A.units+1<cLine)(ho:PE X o td)(he:PE X e ty)(m:M1 X o "get" apos e cpos):PE X (.Call (.Attribute o "get" apos) [e] [] cpos) (tDGet1 td ty):=by
 intro pins s σ H Q I h
 refine wpAny_Call_method m.base m.few m.line PySem.F.plainAttrs_dict PySem.F.slot_dict_get PySem.F.type_dict_get (bK (ho pins s σ H _ I h) fun u s1 hh_=> ?_)
 obtain⟨x,H1,I1,rx,a,ex,d,q1⟩:=hh_
 subst ex
 obtain rfl:u=Value.ref a:=rx
 obtain⟨t1,t2,_⟩:=isD_at I1 d
 refine⟨t1,t2,?_⟩
 rw [m.trees]
 refine Calls.callWith_builtin rfl (Calls.evalArgs_plain (Calls.spliced_cons (bK (he pins s1 σ H1 _ I1 q1) fun iv s2 ⟨y,H2,I2,ry,ov,g,q2⟩=>Calls.spliced_nil ?_)))
 exact d_get1 hu I2 g ry fun w' s3 I3 rw'=>⟨_,H2,I3,rw',q2⟩
end
end L2
namespace Tr
open PySem PySem.Spec PyProof.Rows L2
theorem hu1 {k:Nat}{A:Around}(h:Room k A):A.units+1<cLine:=by have:=h.un;omega
theorem keyEls_rep {K:PySem.W.Frag}{O:Ow}{H:Hp}:∀ {l:List T} {vs:List V} {k:List Key},keyEls l=some k->Reps K O H l vs->vs=k.map kV
 | [],vs,k,h,r=>by cases Reps.nil_iff.mp r;cases h;rfl
 | t::l,vs,k,h,r=>by
  obtain⟨v,ws,rfl,p,q⟩:=Reps.cons_iff.mp r
  unfold keyEls at h
  cases e1:keyEl t with
  | none=>rw [e1]at h;cases h
  | some a=>
   cases e2:keyEls l with
   | none=>rw [e1,e2]at h;cases h
   | some b=>
    rw [e1,e2]at h
    cases h
    rw [keyEls_rep e2 q,List.map_cons]
    congr 1
    cases t with
    | int i=>cases e1;exact Rep.int_iff.mp p
    | str x=>cases e1;exact Rep.str_iff.mp p
    | _=>cases e1
theorem gG {K:PySem.W.Frag}{O:Ow}{H:Hp}{y:T}{v:V}{k:List Key}(h:aR y=some k)(r:Rep K O H y v):∃ b,v= .ref b/\H b=some (.tup (k.map kV)):=by
 cases y with
 | tup l=>
  obtain⟨a,vs,e1,_,e3,e4⟩:=Rep.tup_iff.mp r
  rw [keyEls_rep h e4]at e3
  exact⟨a,e1,e3⟩
 | _=>cases h
theorem dget_rep {K:PySem.W.Frag}{O:Ow}{H:Hp}{k:List Key}:∀ {ks ts:List T} {kvs:List (List Key×V)},ks.map aR=kvs.map (fun p=>some p.1)->Reps K O H ts (kvs.map (·.2))->match dget ks ts k with
  | some t=> ∃v,valV kvs k=some v/\Rep K O H t v
  | none=>valV kvs k=none
 | [],ts,kvs,h,r=>by
  cases kvs with
  | nil=>unfold dget;exact valV_nil
  | cons _ _=>cases h
 | k'::ks,ts,kvs,h,r=>by
  cases kvs with
  | nil=>cases h
  | cons p kvs=>
   rw [List.map_cons,List.map_cons]at h
   injection h with h1 h2
   rw [List.map_cons]at r
   cases ts with
   | nil=>have:=Reps.nil_iff.mp r;cases this
   | cons t ts=>
    obtain⟨v,ws,e,q1,q2⟩:=Reps.cons_iff.mp r
    injection e with e1 e2
    subst e1 e2
    unfold dget
    by_cases hk:aR k'=some k
    ·rw [if_pos hk]
     rw [h1]at hk
     injection hk with hk
     exact⟨_,fA hk,q1⟩
    ·rw [if_neg hk]
     have hk2:¬ p.1=k:=fun z=>hk (by rw [h1,z])
     rw [fB hk2]
     exact dget_rep h2 q2
theorem putK_cons_ne {κ:Type}[DecidableEq κ]{k:κ}{p:κ×V}{r:List (κ×V)}{v:V}(h:¬ p.1=k):cP (p::r) k v=p::cP r k v:=by
 unfold cP
 rw [List.any_cons,decide_eq_false h,Bool.false_or]
 by_cases q:(r.any fun kv=>decide (kv.1=k))=true
 ·rw [if_pos q,if_pos q,List.map_cons,if_neg h]
 ·rw [if_neg q,if_neg q];rfl
theorem putK_cons_eq {κ:Type}[DecidableEq κ]{k:κ}{p:κ×V}{r:List (κ×V)}{v:V}(h:p.1=k)(hn:∀ q∈r,q.1≠k):cP (p::r) k v=(p.1,v)::r:=by
 unfold cP
 rw [List.any_cons,decide_eq_true h,Bool.true_or,if_pos rfl,List.map_cons,if_pos h]
 congr 1
 conv=>rhs;rw [<-List.map_id r]
 exact List.map_congr_left fun q hq=>if_neg (hn q hq)
theorem dput_rep {K:PySem.W.Frag}{O:Ow}{H:Hp}{kT vT:T}{k:List Key}{v:V}(hk:aR kT=some k)(hv:Rep K O H vT v):∀ {ks ts:List T} {kvs:List (List Key×V)},ks.map aR=kvs.map (fun p=>some p.1)->Reps K O H ts (kvs.map (·.2))->(kvs.map (·.1)).Nodup →
  (fT kT vT ks ts).1.map aR=(cP kvs k v).map (fun p=>some p.1)/\Reps K O H (fT kT vT ks ts).2 ((cP kvs k v).map (·.2))
 | [],ts,kvs,h,r,_=>by
  cases kvs with
  | nil=>
   unfold fT
   refine⟨?_,Reps.cons_ hv Reps.nil_⟩
   simp [cP,hk]
  | cons _ _=>cases h
 | k'::ks,ts,kvs,h,r,hn=>by
  cases kvs with
  | nil=>cases h
  | cons p kvs=>
   rw [List.map_cons,List.map_cons]at h
   injection h with h1 h2
   rw [List.map_cons]at r
   rw [List.map_cons]at hn
   obtain⟨n1,n2⟩:=List.nodup_cons.mp hn
   cases ts with
   | nil=>have:=Reps.nil_iff.mp r;cases this
   | cons t ts=>
    obtain⟨v',ws,e,q1,q2⟩:=Reps.cons_iff.mp r
    injection e with e1 e2
    subst e1 e2
    unfold fT
    by_cases hz:aR k'=aR kT
    ·rw [if_pos hz]
     have hp:p.1=k:=by rw [hz,hk]at h1;injection h1 with h1;exact h1.symm
     rw [putK_cons_eq hp fun q hq z=>n1 (by rw [hp,<-z];exact List.mem_map_of_mem hq)]
     exact⟨by rw [List.map_cons,List.map_cons,h1,h2],Reps.cons_ hv q2⟩
    ·rw [if_neg hz]
     have hp:¬ p.1=k:=fun z=>hz (by rw [h1,z,hk])
     obtain⟨a1,a2⟩:=dput_rep hk hv h2 q2 n2
     rw [putK_cons_ne hp]
     exact⟨by rw [List.map_cons,List.map_cons,h1,a1],Reps.cons_ q1 a2⟩
theorem KT_keys {H:Hp}{kvs:List (List Key×V)}{xs:List (List Key×Addr×Value)}(rel:KT H kvs xs):kvs.map (·.1)=xs.map (·.1):=by
 induction rel with
 | nil=>rfl
 | cons h t ih=>rw [List.map_cons,List.map_cons,ih,h.1]
theorem dT_nodup {X:Cx}{pins:List (Addr×Obj)}{σ:L2.St}{H:Hp}{s:Shared}{a:Addr}{kvs:List (List Key×V)}(I:Inv X pins σ H s)(e:H a=some (.dT kvs)):(kvs.map (·.1)).Nodup/\kvs.length<=sizeLine:=by
 obtain⟨z,_,xs,rel,_,_,_,_,_,_,_,_,hn⟩:=dt_of I.hok e
 rw [KT_keys rel]
 exact⟨hn,z⟩
section
variable {X:Cx}{a b:Expr}{fa fb:En->Rs T}{pos:Pos}
theorem q_dix (hu:X.A.units+1<cLine)(ha:bZ X a fa)(hb:bZ X b fb)(hs:NoSl b:=by intro _ _;rfl):bZ X (.Subscript a b pos) (o2 bh fa fb):=by
 refine PE.imp (pe_dget hu ha hb hs) fun σ H Q ⟨ρ,O,E,hq⟩=> ?_
 obtain⟨ρ1,O1,E1,h1⟩:=aQ E hq
 refine⟨ρ1,O1,E1,Post.mono h1 fun t H1 s1 q v r=> ?_⟩
 obtain⟨t',r',s',E',q'⟩:=q v r
 obtain⟨ρ2,O2,E2,h2⟩:=aQ (f:=fb) E' q'
 refine⟨ρ2,O2,E2,Post.mono h2 fun t2 H2 s2 q2 v2 r2=> ?_⟩
 obtain⟨t2',r2',s2',E2',q2'⟩:=q2 v2 r2
 have r'':=r'.same s2'
 unfold bh at q2'
 split at q2'
 ·rename_i ks vs k hk
  split at q2'
  ·rename_i x hx
   obtain⟨a,kvs,e1,e2,e3,e4,e5⟩:=Rep.dct_iff.mp r''
   obtain⟨b,f1,f2⟩:=gG hk r2'
   have g:=dget_rep (k:=k) e4 e5
   rw [hx]at g
   obtain⟨w,g1,g2⟩:=g
   exact⟨a,w,e1,by rw [f1,<-g1];exact DGet.t e3 f2,q2' H2 (Same.refl H2) w g2⟩
  ·exact q2'.elim
 ·exact q2'.elim
end
end Tr
namespace Tr
open PySem PySem.Spec PyProof.Rows L2
open PySem.SeqAt
theorem mem_fun2 {A:Around}{s:Shared}{x:T}{ux:Value}(rx:ReV s x ux)(hu:A.units+60<cLine){l:List T}{us:List Value}(hd:x.dep<=60\/deps l<=60)(r:ReVs s l us) :
  ∃e:Value->Bool,(∀y∈us,EqAt A s y ux (e y))/\us.map e=l.map fun t=>aW t x:=by
 classical
 have ex:∀ y∈us,∃t∈l,ReV s t y:=fun y hy=>by
  obtain⟨i,hi,rfl⟩:=List.getElem_of_mem hy
  have hl:=r.length
  have e1:l[i]? =some l[i]:=by simp
  obtain⟨u,q1,q2⟩:=r.get e1
  have:us[i]? =some us[i]:=by simp
  rw [this]at q1;cases q1
  exact⟨l[i],List.getElem_mem _,q2⟩
 let e:Value->Bool:=fun y=>decide (∃t∈l,ReV s t y/\aW t x=true)
 have dep:∀ t∈l,t.dep<=60\/x.dep<=60:=fun t ht=>by
  rcases hd with h | h
  ·exact .inr h
  ·obtain⟨i,hi,rfl⟩:=List.getElem_of_mem ht
   exact .inl (Nat.le_trans (deps_get (i:=i) (by simp)) h)
 have uniq:∀ y t t',ReV s t y->ReV s t' y->aW t x=aW t' x:=fun y t t' z z'=>by
  rw [<-beqT_nf t,<-beqT_nf t',ReV.nf z z']
 have agree:∀ y t,t∈l->ReV s t y->e y=aW t x:=fun y t h z=>by
  show decide (∃t∈l,ReV s t y/\aW t x=true)=aW t x
  cases q:aW t x with
  | true=>exact decide_eq_true ⟨t,h,z,q⟩
  | false=>
   refine decide_eq_false ?_
   rintro ⟨t',h',z',q'⟩
   rw [<-uniq y t t' z z',q]at q'
   cases q'
 refine⟨e,fun y hy=> ?_,?_⟩
 ·obtain⟨t,h,z⟩:=ex y hy
  rw [agree y t h z]
  exact(eq_T 60 A s t x y ux (dep t h) hu z rx).1
 ·have go:∀ (l':List T) (us':List Value),(∀t∈l',t∈l)->ReVs s l' us'->us'.map e=l'.map fun y=>aW y x:=by
   intro l'
   induction l' with
   | nil=>intro us' _ r';rw [ReVs.nil_iff.mp r'];rfl
   | cons t l' ih=>
    intro us' sub r'
    obtain⟨u,ws,rfl,p,q⟩:=ReVs.cons_iff.mp r'
    rw [List.map_cons,List.map_cons,ih ws (fun t ht=>sub t (List.mem_cons_of_mem _ ht)) q,agree u t (sub t List.mem_cons_self) p]
  exact go l us (fun _ h=>h) r
theorem firstEq_at {x:T}:∀ {l:List T} {n k:Nat},firstEq x l n=some k->n<=k/\(l.map fun t=>aW t x)[k - n]? =some true/\∀ m,m<k - n->(l.map fun t=>aW t x)[m]? =some false
 | [],n,k,h=>by cases h
 | t::l,n,k,h=>by
  unfold firstEq at h
  cases q:aW t x with
  | true=>
   rw [q,if_pos rfl]at h
   cases h
   refine⟨Nat.le_refl _,?_,fun m hm=>by omega⟩
   rw [Nat.sub_self,List.map_cons,q];rfl
  | false=>
   rw [q,if_neg (by decide)]at h
   obtain⟨h1,h2,h3⟩:=firstEq_at h
   have e:k - n=(k - (n+1))+1:=by omega
   refine⟨by omega,?_,fun m hm=> ?_⟩
   ·rw [e,List.map_cons,List.getElem?_cons_succ];exact h2
   ·cases m with
    | zero=>rw [List.map_cons,q];rfl
    | succ m=>rw [List.map_cons,List.getElem?_cons_succ];exact h3 m (by omega)
section
variable {X:Cx}{a b:Expr}{fa fb:En->Rs T}{pos apos cpos:Pos}
theorem q_lindex (hu:X.A.units+61<cLine)(ha:bZ X a fa)(hb:bZ X b fb)(hn:bo b=true:=by rfl)
  (hbase:attributeBase a "index" X.env (eval a X.env)=eval a X.env:=by rfl) (hline:(apos.endLine == cpos.line)=true:=by rfl):bZ X (.Call (.Attribute a "index" apos) [b] [] cpos) (oL fY fa fb):=by
 have hs:starEach [b] X.env=(false,eval b X.env)::starEach [] X.env:=bf hn
 intro pins s σ H Q I ⟨ρ,O,E,hq⟩
 refine wpAny_Call_method_late hbase (by rw [hs];rfl) hline rfl (bK (ha pins s σ H _ I (aQ E hq)) fun v s1 hh_=> ?_)
 obtain⟨x,H1,I1,r1,t,rt,s',E',q1⟩:=hh_
 cases t with
 | lst l=>
  obtain⟨c,vs,e1,e2,e3,e4⟩:=Rep.lst_iff.mp rt
  subst e1
  obtain rfl:v=Value.ref c:=r1
  obtain⟨h1,h2⟩:=tyV_is I1 (show RelV (.ref c) (.ref c)from rfl) (.inl ⟨rfl,vs,SqL.of e3⟩)
  refine⟨_,_,PySem.F.plainAttrs_list,PySem.F.slot_list_index,PySem.F.type_list_index,h1,h2,?_⟩
  rw [hs]
  refine Calls.callWith_builtin rfl (Calls.evalArgs_plain (Calls.spliced_cons (bK (hb pins s1 σ H1 _ I1 (aQ (f:=fb) E' q1)) fun u s2 ⟨y,H2,I2,r2,t2,rt2,s'',E'',q2⟩=>Calls.spliced_nil ?_)))
  unfold fY at q2
  split at q2
  ·rename_i l' heq
   cases heq
   split at q2
   ·rename_i hd3
    obtain⟨hd,hnx,hny⟩:=hd3
    split at q2
    ·rename_i k hk
     have rv:=Rep.val I2 (show(T.lst l).nd=true by unfold T.nd;exact hny) (rt.same s'') (show RelV (.ref c) (.ref c)from rfl)
     unfold ReV at rv
     obtain⟨c',us,ec,hl,rs⟩:=rv
     cases ec
     obtain⟨⟨cls,dd,data,sl⟩,ho,hc,n,hdd⟩:=id hl
     simp only at hc hdd
     subst hc hdd
     obtain⟨e,he,ha⟩:=mem_fun2 (A:=X.A.in1) (Rep.val I2 hnx rt2 r2) (by show X.A.units+1+60<cLine;omega) hd rs
     obtain⟨_,k1,k2⟩:=firstEq_at hk
     rw [Nat.sub_zero]at k1 k2
     rw [<-ha]at k1 k2
     have hkl:k<us.length:=by have:=(List.getElem?_eq_some_iff.mp k1).1;rwa [List.length_map]at this
     have hz:us.length<=sizeLine:=by
      have z:=(I2.lstM (s'' _ _ e3)).1
      have h3:=rs.length
      have h4:=e4.length
      omega
     refine call_meets F.slot_list_index ⟨_,ho,rfl⟩ F.entry_list_index (F.args_list_index_2 _ _) (list_indexAt c us.toArray n dd sl u e k (by simpa using hkl) (by rw [sizeLine_eq]at hz;omega) ?_ ?_) ⟨ho,fun y hy=>he y (by simpa using hy),?_⟩
     ·have:=(List.getElem?_eq_some_iff.mp k1).2
      rw [List.getElem_map]at this
      simpa using this
     ·intro m hm hmk
      have:=(List.getElem?_eq_some_iff.mp (k2 m hmk)).2
      rw [List.getElem_map]at this
      simpa using this
     ·exact⟨.int _,H2,I2.tok _,⟨_,rfl⟩,q2 H2 (Same.refl H2) _ (Rep.int_ _)⟩
    ·exact q2.elim
   ·exact q2.elim
  ·rename_i hno
   exact(hno l rfl).elim
 | _=>exact q1.elim
theorem q_dget (hu:X.A.units+1<cLine)(ha:bZ X a fa)(hb:bZ X b fb)(hn:bo b=true:=by rfl)
  (hbase:attributeBase a "get" X.env (eval a X.env)=eval a X.env:=by rfl) (hline:(apos.endLine == cpos.line)=true:=by rfl):bZ X (.Call (.Attribute a "get" apos) [b] [] cpos) (oD dgetT fa fb):=by
 have hs:starEach [b] X.env=(false,eval b X.env)::starEach [] X.env:=bf hn
 refine PE.imp (pe_dget1 hu ha hb ⟨hbase,by rw [hs];rfl,hline,by rw [hs];rfl⟩) fun σ H Q ⟨ρ,O,E,hq⟩=> ?_
 obtain⟨ρ1,O1,E1,h1⟩:=aQ E hq
 refine⟨ρ1,O1,E1,Post.mono h1 fun t H1 s1 q v r=> ?_⟩
 obtain⟨t',r',s',E',q'⟩:=q v r
 cases t' with
 | dct ks vs=>
  obtain⟨c,kvs,e1,e2,e3,e4,e5⟩:=Rep.dct_iff.mp r'
  refine⟨c,e1,.inr ⟨kvs,.inl e3⟩,?_⟩
  obtain⟨ρ2,O2,E2,h2⟩:=aQ (f:=fb) E' q'
  refine⟨ρ2,O2,E2,Post.mono h2 fun t2 H2 s2 q2 v2 r2=> ?_⟩
  obtain⟨t2',r2',s2',E2',q2'⟩:=q2 v2 r2
  unfold dgetT at q2'
  split at q2'
  ·rename_i ks' vs' k heq hk
   cases heq
   obtain⟨b,f1,f2⟩:=gG hk r2'
   have g:=dget_rep (k:=k) e4 (e5.same s2')
   refine⟨valV kvs k,by rw [f1];exact DGet.t (s2' _ _ e3) f2,?_⟩
   cases hx:dget ks vs k with
   | some z=>
    rw [hx]at g q2'
    obtain⟨w,g1,g2⟩:=g
    rw [g1]
    exact q2' H2 (Same.refl H2) w g2
   | none=>
    rw [hx]at g q2'
    rw [g]
    exact q2' H2 (Same.refl H2) .non Rep.non_
  ·exact q2'.elim
 | _=>exact q'.elim
end
end Tr
namespace Tr
open PySem PySem.Spec PyProof.Rows L2
section
variable {X:Cx}{a b c:Expr}{fa fb fc:En->Rs T}{pos p2 p3 p4:Pos}{x:Str}
theorem qs_put (i:Nat)(hu:X.A.units+1<cLine)(hb:bZ X b fb)(hc:bZ X c fc)(hN:X.N[i]? =some x:=by rfl)(hv:Vis X.env.scope x:=by first | exact Or.inl rfl | exact Or.inr (Or.inl rfl) | exact Or.inr (Or.inr rfl))
  (hd:(x == ("__debug__" : Str))=false:=by decide) (hcd:(x == ("__classdict__" : Str))=false:=by decide)
  (hs:swapsWith c (some (.Subscript (.Name x p2) b p3)) pos.line X.env=pure false:=by rfl):PSt X (.Assign [.Subscript (.Name x p2) b p3] c pos) (sPut i fb fc):=by
 intro pins s σ H D I ⟨ρ,B,M,E,h⟩
 refine ps_dput hu (gy hN hv hd hcd) hb hc hs pins s σ H D I ?_
 unfold sPut at h
 split at h
 ·rename_i ks vs hl
  obtain⟨v0,e1,d,kvs,rfl,hM,e3,e4,e5⟩:=E.env.own i _ hl
  obtain⟨nd,nz⟩:=dT_nodup I e3
  refine⟨ρ,OO B M,E.o,?_⟩
  cases q:fc ρ with
  | bad=>rw [q]at h;exact h.elim
  | err c=>rw [q]at h;exact PostF.xa h
  | ok vT=>
   rw [q,aD]at h
   intro H1 s1 v r
   refine⟨.ref d,e1,ρ,OO B M,(E.same s1).o,?_⟩
   have h1:=h.later (SameO.of s1) (P1:=M.u) fun a z=> .inl z
   cases q2:fb ρ with
   | bad=>rw [q2]at h1;exact h1.elim
   | err c=>rw [q2]at h1;exact PostF.xa h1
   | ok kT=>
    rw [q2,aD]at h1
    intro H2 s2 y ry
    cases q3:aR kT with
    | none=>rw [q3]at h1;exact h1.elim
    | some k=>
     rw [q3]at h1
     have h2:=h1.later (SameO.of s2) (P1:=M.u) fun a z=> .inl z
     have hlen:ks.length=kvs.length:=by have:=congrArg List.length e4;simpa using this
     by_cases hz:ks.length<1000
     ·simp only [if_pos hz]at h2
      obtain⟨kb,f1,f2⟩:=gG q3 ry
      have e3':=s2 _ _ (s1 _ _ e3)
      obtain⟨g1,g2⟩:=dput_rep q3 (r.same s2) e4 ((e5.same s1).same s2) nd
      refine⟨d,upd H2 d (.dT (cP kvs k v)),rfl,by rw [f1];exact DPut.t e3' f2 (by rw [sizeLine_eq];omega),?_⟩
      have sm:SameO (M i) H2 (upd H2 d (.dT (cP kvs k v))):=fun c u e nb=>by rw [aA (fun z=>nb ((hM c).mpr z))];exact e
      obtain⟨g3,g4⟩:=((E.same s1).same s2).put (o':=.dct (fT kT vT ks vs).1 (fT kT vT ks vs).2) hl e1 sm ⟨d,_,rfl,hM,aG,g1,g2.move (P:=M i) (fun a z=> .inl (.inr ⟨i,z⟩)) (fun a z=> .inl z) sm⟩
      exact h2 σ _ M g4 g3 fun c z=> .inl z
     ·simp only [if_neg hz]at h2
      exact h2.elim
 ·exact h.elim
theorem valV_ref {k:List Key}:∀ {kvs:List (List Key×V)} {as:List Addr} {v:V},kvs.map (·.2)=as.map V.ref->valV kvs k=some v->∃ b∈as,v= .ref b
 | [],as,v,_,h=>by cases h
 | p::kvs,as,v,e,h=>by
  cases as with
  | nil=>cases e
  | cons b0 bs=>
   rw [List.map_cons,List.map_cons]at e
   injection e with e1 e2
   by_cases hk:p.1=k
   ·rw [fA hk]at h
    cases h
    exact⟨b0,List.mem_cons_self,e1⟩
   ·rw [fB hk]at h
    obtain⟨b,hb,e⟩:=valV_ref e2 h
    exact⟨b,List.mem_cons_of_mem _ hb,e⟩
theorem rget_rep {K:PySem.W.Frag}{O:Ow}{H:Hp}{k:List Key}{r:List T×List T}:∀ {ks:List T} {rows:List (List T×List T)} {kvs:List (List Key×V)} {as:List Addr},ks.map aR=kvs.map (fun p=>some p.1)->kvs.map (·.2)=as.map V.ref->RowsR K O H rows as->rget ks rows k=some r →
  ∃b kv,valV kvs k=some (.ref b)/\b∈as/\H b=some (.dT kv)/\r.1.map aR=kv.map (fun p=>some p.1)/\Reps K O H r.2 (kv.map (·.2))
 | [],rows,kvs,as,h1,h2,h3,h=>by unfold rget at h;cases h
 | k'::ks,rows,kvs,as,h1,h2,h3,h=>by
  cases rows with
  | nil=>unfold rget at h;cases h
  | cons r0 rows=>
   cases kvs with
   | nil=>cases h1
   | cons p kvs=>
    rw [List.map_cons,List.map_cons]at h1
    injection h1 with h1 h1'
    obtain⟨b0,bs,kv0,rfl,e2,e3,e4,e5⟩:=h3
    rw [List.map_cons,List.map_cons]at h2
    injection h2 with h2 h2'
    unfold rget at h
    by_cases hk:aR k'=some k
    ·rw [if_pos hk]at h
     cases h
     rw [h1]at hk
     injection hk with hk
     exact⟨b0,kv0,by rw [fA hk,h2],List.mem_cons_self,e2,e3,e4⟩
    ·rw [if_neg hk]at h
     have hk2:¬ p.1=k:=fun z=>hk (by rw [h1,z])
     obtain⟨b,kv,g1,g2,g3⟩:=rget_rep h1' h2' e5 h
     exact⟨b,kv,by rw [fB hk2];exact g1,List.mem_cons_of_mem _ g2,g3⟩
theorem rput_rep {K:PySem.W.Frag}{O:Ow}{H H':Hp}{k:List Key}{xr:List T×List T}{b:Addr}{kv':List (List Key×V)}(hO:O b)(hS:SameO (fun c=>c=b) H H')(hb:H' b=some (.dT kv'))(hx1:xr.1.map aR=kv'.map (fun p=>some p.1))(hx2:Reps K O H' xr.2 (kv'.map (·.2))) :
  ∀{ks:List T} {rows:List (List T×List T)} {kvs:List (List Key×V)} {as:List Addr},ks.map aR=kvs.map (fun p=>some p.1)->kvs.map (·.2)=as.map V.ref->RowsR K O H rows as->as.Nodup->valV kvs k=some (.ref b)->RowsR K O H' (rput k xr ks rows) as
 | [],rows,kvs,as,h1,h2,h3,hn,h=>by
  cases kvs with
  | nil=>cases h
  | cons _ _=>cases h1
 | k'::ks,rows,kvs,as,h1,h2,h3,hn,h=>by
  have inO:∀ a,a=b->O a\/Nw K H a:=fun a z=> .inl (z▸hO)
  cases kvs with
  | nil=>cases h1
  | cons p kvs=>
   rw [List.map_cons,List.map_cons]at h1
   injection h1 with h1 h1'
   cases rows with
   | nil=>unfold RowsR at h3;subst h3;cases h2
   | cons r0 rows=>
    obtain⟨b0,bs,kv0,rfl,e2,e3,e4,e5⟩:=h3
    rw [List.map_cons,List.map_cons]at h2
    injection h2 with h2 h2'
    obtain⟨n1,n2⟩:=List.nodup_cons.mp hn
    unfold rput
    by_cases hk:aR k'=some k
    ·rw [if_pos hk]
     rw [h1]at hk
     injection hk with hk
     rw [fA hk,h2]at h
     cases h
     exact⟨b,bs,kv',rfl,hb,hx1,hx2,e5.move (P:=fun c=>c=b) inO (fun a z=> .inl z) hS fun c hc z=>n1 (z▸hc)⟩
    ·rw [if_neg hk]
     have hk2:¬ p.1=k:=fun z=>hk (by rw [h1,z])
     rw [fB hk2]at h
     obtain⟨b',hb',e'⟩:=valV_ref h2' h
     cases e'
     have hne:b0≠b:=fun z=>n1 (z▸hb')
     exact⟨b0,bs,kv0,rfl,hS _ _ e2 hne,e3,e4.move (P:=fun c=>c=b) inO (fun a z=> .inl z) hS,rput_rep hO hS hb hx1 hx2 h1' h2' e5 n2 h⟩
theorem qs_put2 (i:Nat)(hu:X.A.units+1<cLine)(ha:bZ X a fa)(hb:bZ X b fb)(hc:bZ X c fc)(hsl:NoSl a:=by intro _ _;rfl)(hN:X.N[i]? =some x:=by rfl)(hv:Vis X.env.scope x:=by first | exact Or.inl rfl | exact Or.inr (Or.inl rfl) | exact Or.inr (Or.inr rfl))
  (hd:(x == ("__debug__" : Str))=false:=by decide) (hcd:(x == ("__classdict__" : Str))=false:=by decide)
  (hs:swapsWith c (some (.Subscript (.Subscript (.Name x p2) a p3) b p4)) pos.line X.env=pure false:=by rfl):PSt X (.Assign [.Subscript (.Subscript (.Name x p2) a p3) b p4] c pos) (sPut2 i fa fb fc):=by
 intro pins s σ H D I ⟨ρ,B,M,E,h⟩
 refine ps_dput hu (pe_dget hu (gy hN hv hd hcd) ha hsl) hb hc hs pins s σ H D I ?_
 unfold sPut2 at h
 split at h
 ·rename_i ks rows hl
  obtain⟨v0,e1,d,kvs,as,rfl,hM,na,nas,e5,e6,e7,e8⟩:=E.env.own i _ hl
  refine⟨ρ,OO B M,E.o,?_⟩
  cases q:fc ρ with
  | bad=>rw [q]at h;exact h.elim
  | err c=>rw [q]at h;exact PostF.xa h
  | ok vT=>
   rw [q,aD]at h
   intro H1 s1 v r
   refine⟨.ref d,e1,ρ,OO B M,(E.same s1).o,?_⟩
   have h1:=h.later (SameO.of s1) (P1:=M.u) fun a z=> .inl z
   cases q2:fa ρ with
   | bad=>rw [q2]at h1;exact h1.elim
   | err c=>rw [q2]at h1;exact PostF.xa h1
   | ok aT=>
    rw [q2,aD]at h1
    intro H2 s2 y ry
    have h2:=h1.later (SameO.of s2) (P1:=M.u) fun a z=> .inl z
    have E2:=(E.same s1).same s2
    have s12:=s1.trans s2
    split at h2
    ·rename_i ka rr hk
     obtain⟨ka',q3,hk⟩:=Option.bind_eq_some_iff.mp hk
     obtain⟨r',q4,hk⟩:=Option.map_eq_some_iff.mp hk
     cases hk
     obtain⟨rb,kv,g1,g2,g3,g4,g5⟩:=rget_rep e6 e7 e8 q4
     obtain⟨ndr,nzr⟩:=dT_nodup I g3
     obtain⟨ab,f1,f2⟩:=gG q3 ry
     refine⟨d,.ref rb,rfl,by rw [f1,<-g1];exact DGet.t (s12 _ _ e5) f2,ρ,OO B M,E2.o,?_⟩
     cases q5:fb ρ with
     | bad=>rw [q5]at h2;exact h2.elim
     | err c=>rw [q5]at h2;exact PostF.xa h2
     | ok bT=>
      rw [q5,aD]at h2
      intro H3 s3 y2 ry2
      have h3:=h2.later (SameO.of s3) (P1:=M.u) fun a z=> .inl z
      have s13:=s12.trans s3
      have E3:=E2.same s3
      have hlen:rr.1.length=kv.length:=by have:=congrArg List.length g4;simpa using this
      by_cases hz:(aR bT).isSome=true/\rr.1.length<1000
      ·rw [if_pos hz]at h3
       obtain⟨kb,q6⟩:=Option.isSome_iff_exists.mp hz.1
       obtain⟨bb,f3,f4⟩:=gG q6 ry2
       obtain⟨u1,u2⟩:=dput_rep q6 ((r.same s2).same s3) g4 (g5.same s13) ndr
       refine⟨rb,upd H3 rb (.dT (cP kv kb v)),rfl,by rw [f3];exact DPut.t (s13 _ _ g3) f4 (by rw [sizeLine_eq];omega),?_⟩
       have mrb:M i rb:=(hM rb).mpr (.inr g2)
       have hOb:OO B M rb:=.inr ⟨i,mrb⟩
       have sm1:SameO (fun c=>c=rb) H3 (upd H3 rb (.dT (cP kv kb v))):=fun c u e nb=>by rw [aA nb];exact e
       have sm:SameO (M i) H3 (upd H3 rb (.dT (cP kv kb v))):=fun c u e nb=>sm1 c u e fun z=>nb (z▸mrb)
       have inO:∀ a,a=rb->OO B M a\/Nw X.K H3 a:=fun a z=> .inl (z▸hOb)
       have dne:d≠rb:=fun z=>na (z▸g2)
       obtain⟨g6,g7⟩:=E3.put (o':=.dd ks (rput ka (fT bT vT rr.1 rr.2) ks rows)) hl e1 sm ⟨d,kvs,as,rfl,hM,na,nas,sm1 _ _ (s13 _ _ e5) dne,e6,e7,rput_rep hOb sm1 aG u1 (u2.move (P:=fun c=>c=rb) inO (fun a z=> .inl z) sm1) e6 e7 (e8.same s13) nas g1⟩
       exact h3 σ _ M g7 g6 fun c z=> .inl z
      ·rw [if_neg hz]at h3
       exact h3.elim
    ·exact h2.elim
 ·exact h.elim
end
end Tr
namespace PySem
open Sem (wp)
namespace F
theorem lk_list_keys:typeLookup (.type "list") "keys" =pure none:=by rw [typeLookup_type,builtinLookup_eq_fast];kernel_rfl
theorem lk_list_getattr:typeLookup (.type "list") "__getattr__" =pure none:=by rw [typeLookup_type,builtinLookup_eq_fast];kernel_rfl
end F
section
variable {prog:Program}{w:World}{A:Around}{E:Value->Shared->Prop}{h:Heap}{g:Array GenState}{d:Drawn}{t:Nat}{os:OsState}{a:Addr}{its:Array Value}{n:Nat}
theorem keys_entry_list {tk:Tok}{Q:Fin->Shared->Prop}(hx:h.get? a=some { cls:=.type "list",data:=.seq its n })(hh:A.handled=none)
  (hq:∀ h' tk' e,Heap.NewAttrErr h h' e (.ref a) "keys"->E (.ref e) ⟨h',g,d,tk',os⟩) :
  wpAny (model prog w) A (Builtin.«object.__getattribute__» ⟨[.ref a,.str "keys" tk],[]⟩) Q E ⟨h,g,d,t,os⟩:=by
 have hT:(⟨h,g,d,t,os⟩:Shared).TypeIs (.ref a) "list":=⟨_,hx,rfl⟩
 have f4:=F.lk_list_keys
 repeat (any_goals (first | assumption | wp_step))
 exact wpAny_raiseAttrError hh (fun h' tk e hx=>hq h' tk e hx) (attrMsg_fits (by decide+kernel) (by rw [sizeLine_eq];decide))
theorem keys_call_list {tk:Tok}{R:Result->Shared->Prop}(hx:h.get? a=some { cls:=.type "list",data:=.seq its n })(hh:A.handled=none)
  (hq:∀ h' tk' e,Heap.NewAttrErr h h' e (.ref a) "keys"->R (.error (.ref e)) ⟨h',g,d,tk',os⟩) :
  codeAny (model prog w) A (.call (.builtin "list.__getattribute__") ⟨[.ref a,.str "keys" tk],[]⟩) R ⟨h,g,d,t,os⟩:=
 codeAny_call_builtin F.slot_list_getattribute.plain F.entry_list_ga (F.slot_list_getattribute.check _ _ _ _ _ _ _ _ (show(⟨h,g,d,t,os⟩:Shared).TypeIs (.ref a) "list" from⟨_,hx,rfl⟩) (F.args_list_getattribute_2 _ _) (keys_entry_list hx hh hq))
theorem keys_attr_list {Q:Option Value->Shared->Prop}(hx:h.get? a=some { cls:=.type "list",data:=.seq its n })(hh:A.handled=none)
  (hq:∀ h' tk',(∀b o,h.get? b=some o->h'.get? b=some o)->Q none ⟨h',g,d,tk',os⟩):wpAny (model prog w) A (getAttr? (.ref a) "keys") Q E ⟨h,g,d,t,os⟩:=by
 have hT:∀ tk,(⟨h,g,d,tk,os⟩:Shared).TypeIs (.ref a) "list":=fun _=>⟨_,hx,rfl⟩
 have f1:=sub_AttributeError
 have f2:=F.slot_list_getattribute.lookup
 have f3:=F.slot_list_getattribute.bind (.ref a)
 have f5:=F.lk_list_getattr
 unfold getAttr? getAttrBy? getAttrBy
 repeat (any_goals (first | assumption | exact hT _ | wp_step))
 refine keys_call_list hx hh fun h' tk' e hx'=> ?_
 obtain⟨t',u',he⟩:=hx'.there
 repeat (any_goals (first | assumption | exact hT _ | wp_step))
 exact hq _ _ hx'.keeps
end
end PySem
namespace PySem.F
theorem entry_dict_update_loop:entryFor table "dict.update.loop" =some Builtin.«dict.update.loop»:=entryFor_of_tree (by kernel_rfl)
theorem plain_dict_update_loop:plainId "dict.update.loop" =true:=by decide+kernel
end PySem.F
namespace Tr
open PySem PySem.Spec PyProof.Rows L2
def dW (kvs:List (List Key×V)):List (List Key×V)->List (List Key×V)
 | [] =>kvs
 | p::ps=>dW (cP kvs p.1 p.2) ps
def PairsAt (H:Hp):List V->List (List Key×V)->Prop
 | [],ps=>ps= []
 | x::xs,ps=> ∃b kb p r,ps=p::r/\x= .ref b/\H b=some (.tup [.ref kb,p.2])/\H kb=some (.tup (p.1.map kV))/\PairsAt H xs r
theorem PairsAt.upd {H:Hp}{d:Addr}{kvs:List (List Key×V)}{o:HO}(hd:H d=some (.dT kvs)):∀ {xs:List V} {ps:List (List Key×V)},PairsAt H xs ps->PairsAt (L2.upd H d o) xs ps
 | [],_,h=>h
 | x::xs,_,⟨b,kb,p,r,e1,e2,e3,e4,e5⟩=>⟨b,kb,p,r,e1,e2,by rw [aA (ne_of e3 hd (fun z=>nomatch z))];exact e3,by rw [aA (ne_of e4 hd (fun z=>nomatch z))];exact e4,e5.upd hd⟩
theorem upd_upd {H:Hp}{d:Addr}{a b:HO}:upd (upd H d a) d b=upd H d b:=by
 funext c
 by_cases h:c=d
 ·rw [h,aG,aG]
 ·rw [aA h,aA h,aA h]
section
variable {X:Cx}{pins:List (Addr×Obj)}{σ:L2.St}{A:Around}{res:Value}{R:Result->Shared->Prop}{d l it:Addr}{xs:List V}
theorem dict_loop (hh:A.handled=none)(hu:A.units+3<cLine):∀ (k i:Nat) (s:Shared) (H:Hp) (kvs ps:List (List Key×V)),xs.length - i=k->i<=xs.length->H l=some (.lst xs)->H d=some (.dT kvs)->kvs.length+(xs.length - i)<=1000->Inv X pins σ H s->s.heap.IsListIter it l i->FpOk X pins H it->PairsAt H (xs.drop i) ps →
  (∀s',Inv X pins σ (upd H d (.dT (dW kvs ps))) s'->R (.ok (.ret res)) s')->codeAny (model X.prog X.w) A (.builtin "dict.update.loop" ⟨[.ref d,.ref it,rawInt i,res],[]⟩) R s:=by
 intro k
 induction k with
 | zero=>
  intro i s H kvs ps hk hi hl hd hz I hit hf hp hR
  refine codeAny_builtin F.entry_dict_update_loop ?_
  rw [Around.under_plainId F.plain_dict_update_loop _]
  obtain⟨z,its,n,r,hlen,e⟩:=I.lstM hl
  have hL:s.heap.IsList l its.toArray:=⟨_,e,rfl,n,rfl⟩
  show wpAny _ A.in1 (pyNext (.ref it) >>= _) _ _ s
  refine wpAny_bind (wpAny_pyNext_list_end hh hit hL (by simp;omega) fun h' hm=> ?_)
  show wpAny _ _ (Builtin.Dict.addKeywords d [] >>= _) _ _ _
  refine wpAny_bind (wpAny_pure (wpAny_pure ?_))
  have hnil:xs.drop i= []:=List.drop_eq_nil_of_le (by omega)
  rw [hnil]at hp
  unfold PairsAt at hp
  subst hp
  have e2:upd H d (.dT (dW kvs []))=H:=by
   funext b
   by_cases hb:b=d
   ·rw [hb,aG,hd];rfl
   ·rw [aA hb]
  rw [e2]at hR
  exact hR _ (I.turnedL (fp:=[it]) (t':=s.toks) (fun b hb=>by rw [List.mem_singleton.mp hb];exact hf) fun b o hb eb=>hm b o (fun z=>hb (by rw [z];exact List.mem_singleton.mpr rfl)) eb)
 | succ k ih=>
  intro i s H kvs ps hk hi hl hd hz I hit hf hp hR
  refine codeAny_builtin F.entry_dict_update_loop ?_
  rw [Around.under_plainId F.plain_dict_update_loop _]
  obtain⟨z,its,n,r,hlen,e⟩:=I.lstM hl
  have hL:s.heap.IsList l its.toArray:=⟨_,e,rfl,n,rfl⟩
  have hlt:i<xs.length:=by omega
  have hlt':i<its.length:=by omega
  show wpAny _ A.in1 (pyNext (.ref it) >>= _) _ _ s
  refine wpAny_bind (wpAny_pyNext_list_item hit hL (x:=its[i]) (by simp [hlt']) fun h' hit' hm=> ?_)
  have I1:Inv X pins σ H { s with heap:=h' }:=I.turnedL (fp:=[it]) (t':=s.toks) (fun b hb=>by rw [List.mem_singleton.mp hb];exact hf) fun b o hb eb=>(hm.2 b (fun z=>hb (by rw [z];exact List.mem_singleton.mpr rfl))).trans eb
  have hdrop:xs.drop i=xs[i] ::xs.drop (i+1):=List.drop_eq_getElem_cons hlt
  rw [hdrop]at hp
  obtain⟨b,kb,p,r',rfl,ex,hb,hkb,hp'⟩:=hp
  have rx:RelV xs[i] its[i]:=by
   obtain⟨u,q1,q2⟩:=r.get (List.getElem?_eq_getElem hlt)
   rw [List.getElem?_eq_getElem hlt']at q1
   cases q1
   exact q2
  rw [ex]at rx
  have eu:its[i] =Value.ref b:=rx
  rw [eu]
  obtain⟨z2,its2,r2,ob,hob1,hob2,nb,hob3⟩:=(show ObjOk X.prog X.w H h' b (.tup [.ref kb,p.2])from I1.hok b _ hb)
  obtain⟨u1,us1,q1,rfl⟩:∃ u1 us1,RelV (V.ref kb) u1/\its2=u1::us1:=by cases r2 with | cons a b=>exact⟨_,_,a,rfl⟩
  cases r2 with
  | cons ra rb=>
   obtain⟨u2,q2,rfl⟩:∃ u2,RelV p.2 u2/\us1= [u2]:=by cases rb with | cons a b=>cases b;exact⟨_,a,rfl⟩
   obtain rfl:u1=Value.ref kb:=q1
   show wpAny _ A.in1 (holding [Value.ref b] _ >>= _) _ _ _
   refine wpAny_bind (wpAny_holding ?_)
   refine wpAny_bind (wpAny_tryCatch ?_)
   unfold Builtin.Dict.pairItems
   refine wpAny_bind (wpAny_typeOf (s:={ s with heap:=h' }) (T:="tuple") ⟨ob,hob1,hob2⟩ ?_)
   rw [if_pos (by decide)]
   refine wpAny_bind (wpAny_seqItems (s:={ s with heap:=h' }) hob1 hob3 (wpAny_pure ?_))
   show wpAny _ _ (holding [Value.ref kb,u2] (dictSet d (.ref kb) u2)) _ _ _
   refine wpAny_holding ?_
   obtain⟨zz,hds,xs2,rel,dd⟩:=dt_of I1.hok hd
   have hzl:xs2.length<=sizeLine:=by rw [<-Paired.length rel];exact zz
   have hkl:kvs.length<sizeLine:=by rw [sizeLine_eq];omega
   have hl2:(cP kvs p.1 p.2).length<=sizeLine:=by have:=fZ kvs p.1 p.2;omega
   refine wpAny_dictSet_heap (hsz:=hzl) (tupleKind_room_in1 (by show A.units+1<cLine;omega)) (key_of I1.hok hkb) dd fun h2 dd2 hs2=> ?_
   obtain⟨q,es,ep,hq,h22,h3,h4,_,h5⟩:=dd2
   have I2:Inv X pins σ (upd H d (.dT (cP kvs p.1 p.2))) { s with heap:=h2,toks:=s.toks+(tupleKind (ci X.prog X.w)).draws p.1 }:=
    d_write (s:={ s with heap:=h' }) I1 (by rw [hd];exact True.intro) hs2 ⟨q,hq⟩ ⟨hl2,hds,_,(rel.put p.1 hkb q2).keeps fun c ys ec=>by rw [aA (ne_of ec hd (fun z=>nomatch z))];exact ec,q,es,ep,hq,h22,h3,h4,h5⟩
   have hld:l≠d:=ne_of hl hd (fun z=>nomatch z)
   have hitd:it≠d:=fun z=>by have:=hf.1;rw [z,hd]at this;cases this
   have hcast:(i:Int)+1=((i+1:Nat):Int):=by omega
   refine wpAny_pure ⟨plainId_quiet F.plain_dict_update_loop _,?_⟩
   rw [hcast]
   refine ih (i+1) _ (upd H d (.dT (cP kvs p.1 p.2))) (cP kvs p.1 p.2) r' (by omega) (by omega) (by rw [aA hld];exact hl) aG (by have:=fZ kvs p.1 p.2;omega) I2 ?_ ⟨by rw [aA hitd];exact hf.1,hf.2⟩ (hp'.upd hd) fun s' I'=> ?_
   ·obtain⟨oi,ho1,ho2,ho3⟩:=hit'
    exact⟨oi,(hs2.2 it hitd).trans ho1,ho2,ho3⟩
   ·rw [upd_upd]at I'
    exact hR s' I'
end
theorem PairsAt.same {H H':Hp}(s:Same H H'):∀ {xs:List V} {ps:List (List Key×V)},PairsAt H xs ps->PairsAt H' xs ps
 | [],_,h=>h
 | x::xs,_,⟨b,kb,p,r,e1,e2,e3,e4,e5⟩=>⟨b,kb,p,r,e1,e2,s _ _ e3,s _ _ e4,e5.same s⟩
section
variable {X:Cx}{pins:List (Addr×Obj)}{σ:L2.St}{A:Around}{E:Value->Shared->Prop}{H:Hp}{s:Shared}{l:Addr}{xs:List V}{ps:List (List Key×V)}
theorem d_ofList {Q:Value->Shared->Prop}(hh:A.handled=none)(hu:A.units+8<cLine)(I:Inv X pins σ H s)(hl:H l=some (.lst xs))(hz:xs.length<=1000)(hp:PairsAt H xs ps)
  (h:∀ p s',Nw X.K H p->Inv X pins σ (upd H p (.dT (dW [] ps))) s'->Q (.ref p) s'):wpAny (model X.prog X.w) A (call (.type "dict") [.ref l]) Q E s:=by
 have hk:X.K.lookup s.heap.objs.size=none:=by
  cases q:X.K.lookup s.heap.objs.size with
  | none=>rfl
  | some o=>exact absurd (Heap.lt_size (I.kIn _ o q)) (Nat.lt_irrefl _)
 have hn:H s.heap.objs.size=none:=I.hok.fresh (Nat.le_refl _)
 have hlp:l≠s.heap.objs.size:=fun z=>by rw [z,hn]at hl;cases hl
 refine callType_codes (Q₁:=fun obj s₁=>obj= .ref s.heap.objs.size/\s₁= { s with heap:=s.heap.push { cls:=.type "dict",data:=.dict #[] } }) F.kt_called_dict (F.kt_typeCall_dict_1 _) F.entry_dict_init (kt_code_dict_new _ ⟨rfl,rfl⟩) ?_
 rintro obj s₁ ⟨rfl,rfl⟩
 have I1:Inv X pins σ (upd H s.heap.objs.size (.dT [])) { s with heap:=s.heap.push { cls:=.type "dict",data:=.dict #[] } }:=I.laid (a:=s.heap.objs.size) (o:=.dT []) (t':=s.toks) (fun _ _ q=>Heap.get?_push_of_some _ q) (Nat.le_refl _) (dt_empty s.heap I.big)
 have hT:({ s with heap:=s.heap.push { cls:=.type "dict",data:=.dict #[] } }:Shared).TypeIs (.ref s.heap.objs.size) "dict":=⟨_,Heap.get?_push_size _ rfl,rfl⟩
 have hl1:upd H s.heap.objs.size (.dT []) l=some (.lst xs):=by rw [aA hlp];exact hl
 obtain⟨z,its,n,r,hlen,e⟩:=I1.lstM hl1
 refine⟨hT,F.args_dict_init_2 _ _,?_⟩
 unfold Builtin.«dict.__init__»
 refine wpAny_bind ?_
 unfold Builtin.Dict.selfAndRest
 refine wpAny_bind (wpAny_notOrdered_dict hT ?_)
 show wpAny _ _ (pure (s.heap.objs.size,[Value.ref l])) _ _ _
 refine wpAny_pure ?_
 show wpAny _ _ (Builtin.Dict.updateFrom "dict.__init__" s.heap.objs.size (.ref l) [] .none) _ _ _
 unfold Builtin.Dict.updateFrom
 refine wpAny_bind (wpAny_typeOf (T:="list") ⟨_,e,rfl⟩ ?_)
 rw [if_pos (by decide)]
 refine wpAny_bind (keys_attr_list e hh fun h' tk' kp=> ?_)
 have I2:Inv X pins σ (upd H s.heap.objs.size (.dT [])) { s with heap:=h',toks:=tk' }:=I1.kept (t':=tk') kp
 rw [if_pos (by rfl)]
 refine wpAny_bind (wpAny_rule ?_)
 have eL:({ s with heap:=h',toks:=tk' }:Shared).heap.IsList l its.toArray:=⟨_,kp _ _ e,rfl,n,rfl⟩
 refine wpAny_bind (wpAny_pyIter_list eL ?_)
 have I3:Inv X pins σ (upd H s.heap.objs.size (.dT [])) { s with heap:=h'.push { cls:=.type "list_iterator",data:=.fields #[.ref l,.int 0 0] },toks:=tk' }:=I2.kept (t':=tk') fun b u q=>Heap.get?_push_of_some _ q
 have hpl:s.heap.objs.size<h'.objs.size:=Heap.lt_size (kp _ _ (Heap.get?_push_size _ rfl))
 have hni:upd H s.heap.objs.size (.dT []) h'.objs.size=none:=by
  rw [aA (Nat.ne_of_gt hpl)]
  exact I.hok.fresh (Nat.le_of_lt hpl)
 have hp1:PairsAt (upd H s.heap.objs.size (.dT [])) xs ps:=hp.same (aS hn _)
 refine wpAny_pure ⟨plainId_quiet F.plain_dict_update_loop _,?_⟩
 refine dict_loop (A:=A.in1) (X:=X) (pins:=pins) (σ:=σ) (l:=l) (xs:=xs) (it:=h'.objs.size) hh (by show A.units+1+3<cLine;omega) xs.length 0 _ (upd H s.heap.objs.size (.dT [])) [] ps (by omega) (Nat.zero_le _) hl1 aG (by simp;omega) I3 ⟨_,Heap.get?_push_size _ rfl,rfl,rfl⟩ (I2.fpOk (Nat.le_refl _) hni) hp1 fun s' I'=> ?_
 rw [upd_upd]at I'
 exact⟨rfl,h _ _ ⟨hn,hk⟩ I'⟩
end
theorem hu8 {k:Nat}{A:Around}(h:Room k A):A.units+8<cLine:=by have:=h.un;omega
theorem nodup_putK {kvs:List (List Key×V)}{k:List Key}{v:V}(h:(kvs.map (·.1)).Nodup):((cP kvs k v).map (·.1)).Nodup:=by
 unfold cP
 by_cases a:(kvs.any fun kv=>decide (kv.1=k))=true
 ·rw [if_pos a,List.map_map]
  have:((fun x=>x.1)∘fun kv:List Key×V=>if kv.1=k then(kv.1,v)else kv)=fun x=>x.1:=by
   funext x
   show(if x.1=k then(x.1,v)else x).1=x.1
   by_cases e:x.1=k
   ·rw [if_pos e]
   ·rw [if_neg e]
  rw [this]
  exact h
 ·rw [if_neg a,List.map_append,List.nodup_append]
  refine⟨h,by simp,fun x hx y hy=> ?_⟩
  simp only [List.map_cons,List.map_nil,List.mem_singleton]at hy
  subst hy
  intro z
  subst z
  obtain⟨p,hp,e⟩:=List.mem_map.mp hx
  exact a (List.any_eq_true.mpr ⟨p,hp,decide_eq_true e⟩)
def PsR (K:PySem.W.Frag)(O:Ow)(H:Hp):List (T×T)->List (List Key×V)->Prop
 | [],ps=>ps= []
 | a::l,ps=> ∃p r,ps=p::r/\aR a.1=some p.1/\Rep K O H a.2 p.2/\PsR K O H l r
theorem dputs_rep {K:PySem.W.Frag}{O:Ow}{H:Hp}:∀ {l:List (T×T)} {ps:List (List Key×V)} {ks ts:List T} {kvs:List (List Key×V)},PsR K O H l ps->ks.map aR=kvs.map (fun p=>some p.1)->Reps K O H ts (kvs.map (·.2))->(kvs.map (·.1)).Nodup →
  (dputs l (ks,ts)).1.map aR=(dW kvs ps).map (fun p=>some p.1)/\Reps K O H (dputs l (ks,ts)).2 ((dW kvs ps).map (·.2))
 | [],ps,ks,ts,kvs,h,h1,h2,hn=>by unfold PsR at h;subst h;exact⟨h1,h2⟩
 | (a,b)::l,ps,ks,ts,kvs,h,h1,h2,hn=>by
  obtain⟨p,r,rfl,e1,e2,e3⟩:=h
  obtain⟨g1,g2⟩:=dput_rep (vT:=b) e1 e2 h1 h2 hn
  show(dputs l (fT a b ks ts)).1.map aR=(dW (cP kvs p.1 p.2) r).map (fun p=>some p.1)/\Reps K O H (dputs l (fT a b ks ts)).2 ((dW (cP kvs p.1 p.2) r).map (·.2))
  exact dputs_rep (l:=l) e3 g1 g2 (nodup_putK hn)
theorem prs_rep {K:PySem.W.Frag}{O:Ow}{H:Hp}:∀ {l:List T} {tps:List (T×T)} {xs:List V},prs l=some tps->Reps K O H l xs->∃ ps,PairsAt H xs ps/\PsR K O H tps ps
 | [],tps,xs,h,r=>by cases Reps.nil_iff.mp r;cases h;exact⟨[],rfl,rfl⟩
 | t::l,tps,xs,h,r=>by
  obtain⟨v,ws,rfl,p,q⟩:=Reps.cons_iff.mp r
  unfold prs at h
  split at h
  ·rename_i heq;cases heq
  ·rename_i k v' l' heq
   cases heq
   split at h
   ·rename_i kk rr hk hr
    cases h
    obtain⟨ps,g1,g2⟩:=prs_rep hr q
    obtain⟨b,vs,e1,e2,e3,e4⟩:=Rep.tup_iff.mp p
    obtain⟨u1,us1,rfl,f1,f2⟩:=Reps.cons_iff.mp e4
    obtain⟨u2,us2,rfl,f3,f4⟩:=Reps.cons_iff.mp f2
    cases Reps.nil_iff.mp f4
    obtain⟨kb,f5,f6⟩:=gG hk f1
    subst f5
    exact⟨(kk,u2)::ps,⟨b,kb,(kk,u2),ps,rfl,e1,e3,f6,g1⟩,⟨(kk,u2),ps,rfl,hk,f3,g2⟩⟩
   ·cases h
  ·cases h
section
variable {X:Cx}{e:Expr}{f:En->Rs T}{x y:Str}{p pos p2 p3:Pos}
def tDictN (X:Cx)(f:En->Rs T):TE:=fun σ H Q=>tP X f σ H fun v H'=> ∃a xs ps,v= .ref a/\H' a=some (.lst xs)/\xs.length<=1000/\PairsAt H' xs ps/\∀ q,Nw X.K H' q->Q (.ref q) (upd H' q (.dT (dW [] ps)))
theorem pe_dictN (hu:X.A.units+8<cLine)(hc:X.calm=true)(hm:X.mg "dict" =none)(ha:bZ X e f)(hg:Gl X "dict")(hs:bo e=true):PE X (.Call (.Name "dict" p) [e] [] pos) (tDictN X f):=by
 have h1:starEach [e] X.env=(false,eval e X.env)::starEach [] X.env:=bf hs
 intro pins s σ H Q I hq
 refine wpAny_Call_Name_kw (fN I hg hm (show bootBuiltins "dict" =some (.type "dict")by decide+kernel) ?_ (by decide) (by decide))
 refine PyProof.Rows.callWith_type1 (bK (a6 (te:=tP X f) ha db h1 pos pins s σ H (fun xs H'=> ∃v,xs= [v]/\∃ a xs ps,v= .ref a/\H' a=some (.lst xs)/\xs.length<=1000/\PairsAt H' xs ps/\∀ q,Nw X.K H' q->Q (.ref q) (upd H' q (.dT (dW [] ps)))) I ?_) fun us s1 hh=> ?_) h1 rfl
 ·obtain⟨ρ,O,E,h⟩:=hq
  exact⟨ρ,O,E,Post.mono h fun t H' _ g v r=>⟨v,rfl,g v r⟩⟩
 ·obtain⟨vs,H1,I1,r1,v,rfl,a,xs,ps,ev,e1,e2,e3,e4⟩:=hh
  subst ev
  obtain⟨u,rfl,ru⟩:=r1.one
  obtain rfl:u=Value.ref a:=ru
  exact d_ofList (I1.ok.hd hc) hu I1 e1 e2 e3 fun q s' nw I'=>⟨.ref q,_,I',rfl,e4 q nw⟩
theorem qs_newD (i:Nat)(hu:X.A.units+8<cLine)(hc:X.calm=true)(hm:X.mg "dict" =none)(hN:X.N.Nodup)(ha:bZ X e f)(hst:bo e=true:=by rfl)(hg:Gl X "dict":=by rfl)(hi:X.N[i]? =some x:=by rfl)(hx:Loc X.env.scope x:=by first | exact Or.inl rfl | exact Or.inr rfl)(hs:swapsWith (.Call (.Name "dict" p) [e] [] p2) (some (.Name x p3)) pos.line X.env=pure false:=by rfl)
  (hf:X.fn x=true\/X.env.scope.names.lookup x=some .local:=by first | exact .inl rfl | exact .inr rfl | assumption):PSt X (.Assign [.Name x p3] (.Call (.Name "dict" p) [e] [] p2) pos) (sNewD i f):=PS.imp (ps_set hN hi hx (pe_dictN hu hc hm ha hg hst) hs hf) fun D σ H hh_=>by
 obtain⟨ρ,B,M,E,h⟩:=hh_
 refine⟨ρ,OO B M,E.o,?_⟩
 unfold sNewD at h
 cases q:f ρ with
 | bad=>rw [q]at h;exact h.elim
 | err c=>rw [q]at h;exact PostF.xa h
 | ok t=>
  rw [q,aD]at h
  intro H1 s1 v r
  have h1:=h.later (SameO.of s1) (P1:=M.u) fun a z=> .inl z
  cases t with
  | lst l=>
   obtain⟨a,xs,rfl,e2,e3,e4⟩:=Rep.lst_iff.mp r
   unfold dictT at h1
   split at h1
   ·rename_i l' heq
    cases heq
    split at h1
    ·rename_i tps hps
     by_cases hz:l.length<=1000
     ·rw [if_pos hz,aD]at h1
      obtain⟨ps,g1,g2⟩:=prs_rep hps e4
      refine⟨a,xs,ps,rfl,e3,by rw [<-e4.length];exact hz,g1,fun nd nw=> ?_⟩
      by_cases hl:i<ρ.length
      ·simp only [if_pos hl]at h1
       have hm:∀ a,a=nd->Nw X.K H1 a:=fun a z=>z▸nw
       obtain⟨k1,k2⟩:=dputs_rep (ks:=[]) (ts:=[]) (kvs:=[]) g2 rfl Reps.nil_ List.nodup_nil
       obtain⟨E2,sub⟩:=(E.same s1).new (m:=fun a=>a=nd) (o:=.dct (dputs tps ([],[])).1 (dputs tps ([],[])).2) (v:=.ref nd) (H':=upd H1 nd (.dT (dW [] ps))) hl hm (aS nw.1 _) ⟨nd,_,rfl,fun b=>Iff.rfl,aG,k1,(k2.more (Ev.subO hm)).same (aS nw.1 _)⟩
       exact h1 _ _ _ (SameO.of (aS nw.1 _)) E2 sub
      ·simp only [if_neg hl]at h1;exact h1.elim
     ·rw [if_neg hz]at h1;exact h1.elim
    ·exact h1.elim
   ·rename_i hno
    exact(hno l rfl).elim
  | _=>exact h1.elim
end
theorem numsT_vals {K:PySem.W.Frag}{O:Ow}{H:Hp}:∀ {l:List T} {ns:List Int} {xs:List V} {us:List Value},numsT l=some ns->Reps K O H l xs->Vals xs us->IntsAre us ns
 | [],ns,xs,us,h,r,v=>by cases Reps.nil_iff.mp r;cases v;cases h;exact .nil
 | t::l,ns,xs,us,h,r,v=>by
  obtain⟨w,ws,rfl,p,q⟩:=Reps.cons_iff.mp r
  cases v with
  | cons v1 v2=>
   cases t with
   | int i=>
    unfold numsT at h
    obtain⟨m,h1,rfl⟩:=Option.map_eq_some_iff.mp h
    cases Rep.int_iff.mp p
    obtain⟨k,rfl⟩:=v1
    exact .cons _ _ (numsT_vals h1 q v2)
   | _=>cases h
section
variable {X:Cx}
theorem ct_sum (hc:X.calm=true):CallT X (.builtin "sum") sumT:=by
 intro pins s σ H O ts vs us Q I hf rs rv hp
 unfold sumT at hp
 split at hp
 ·rename_i l
  obtain⟨v,rfl,r⟩:=rs.one
  split at hp
  ·rename_i ns hk
   obtain⟨a,ws,rfl,n,q,z⟩:=Rep.lst_iff.mp r
   obtain⟨u,rfl,ru⟩:=vals1 rv
   cases ru
   obtain⟨its,r',pl,hz⟩:=I.list (SqL.of q)
   have hi:=numsT_vals hk z r'
   obtain⟨xs,e⟩:=hi.allInts.items
   have hns:ns=xs.toList.map (·.1):=by rw [<-hi.numsOf,<-nums_intItems,<-e]
   have hl:s.heap.IsList a (intItems xs):=by rw [<-e];exact pl.isList
   refine sum_intListG (I.ok.hd hc) hl fun h' tk t' hk'=>⟨.int _,H,I.kept (t':=tk) hk',⟨_,rfl⟩,?_⟩
   have:preSum (numAt xs) xs.size=ns.sum:=by rw [hns,preSum_eq,List.take_of_length_le (by simp)]
   rw [this]
   exact hp H (Same.refl H) _ (Rep.int_ _)
  ·exact hp.elim
 ·exact hp.elim
end
end Tr
namespace Tr
def eY:List T->Option (List (List Int))
 | [] =>some []
 | .tup l::r=>match numsT l,eY r with
  | some ns,some k=>if ns= []then none else some (ns::k)
  | _,_=>none
 | _=>none
end Tr
namespace Tr
open PySem PySem.Spec PyProof.Rows L2
section
variable {X:Cx}
theorem numsT_map:∀ {m:List T} {ns:List Int},numsT m=some ns->m=ns.map .int
 | [],ns,h=>by cases h;rfl
 | t::m,ns,h=>by
  cases t with
  | int i=>
   unfold numsT at h
   obtain⟨k,h1,rfl⟩:=Option.map_eq_some_iff.mp h
   rw [numsT_map h1];rfl
  | _=>cases h
end
structure QE (X:Cx)(e:Expr)(f:En->Rs T):Prop where
 h:bZ X e f
structure QA (X:Cx)(e:List Expr)(f:En->Rs (List T)):Prop where
 h:PAt X e f
structure QT (X:Cx)(e:Expr)(f:En->Rs Bool):Prop where
 h:PTt X e f
structure QW (X:Cx)(e:Expr)(f:En->Rs Bool):Prop where
 h:PWt X e f
structure QS (X:Cx)(e:Stmt)(f:En->Rs Fl):Prop where
 h:PSt X e f
structure QSs (X:Cx)(e:List Stmt)(f:En->Rs Fl):Prop where
 h:PSst X e f
structure QG (X:Cx)(e:Expr)(f:T->En->Rs En):Prop where
 h:PGt X e f
structure QGs (X:Cx)(e:List Expr)(f:List T->En->Rs En):Prop where
 h:PGst X e f
structure QI (X:Cx)(t e:Expr)(f:En->Rs (List T)):Prop where
 h:PIt X t e f
structure QO (X:Cx)(e:Option Expr)(f:En->Rs (Option Int)):Prop where
 h:POt X e f
structure QIf (X:Cx)(e:List Expr)(f:En->Rs Bool):Prop where
 h:PIf X e (tPT X f)
theorem ad {X:Cx}(i:Nat){x:Str}{pos:Pos}(hN:(Cx.N X)[i]? =some x:=by rfl)(hv:Vis (Env.scope (Cx.env X)) x:=by first | exact Or.inl rfl | exact Or.inr (Or.inl rfl) | exact Or.inr (Or.inr rfl))(hd:(x == Str.ofString "__debug__")=false:=by decide)(hcd:(x == Str.ofString "__classdict__")=false:=by decide):QE X (Expr.Name x pos) (vr i):=
 ⟨q_var (i:=i) (hN:=hN) (hv:=hv) (hd:=hd) (hcd:=hcd)⟩
theorem ag {X:Cx}{i:Int}{j:Nat}{pos:Pos}:QE X (Expr.Constant (Const.int i) j pos) (cn (T.int i)):=
 ⟨q_int ⟩
theorem eV {X:Cx}{i:Bool}{j:Nat}{pos:Pos}:QE X (Expr.Constant (Const.bool i) j pos) (cn (T.bl i)):=
 ⟨q_bl ⟩
theorem bv {X:Cx}{j:Nat}{pos:Pos}:QE X (Expr.Constant Const.none j pos) (cn T.non):=
 ⟨q_non ⟩
theorem zq_str {X:Cx}{i:Str}{j:Nat}{pos:Pos}:QE X (Expr.Constant (Const.str i) j pos) (cn (T.str i)):=
 ⟨q_str ⟩
theorem zq_gint {X:Cx}{x:Str}{i:Int}{u:Value}{pos:Pos}(hm:Cx.mg X x=some u)(r:L2.RelV (V.int i) u)(hg:Gl X x:=by rfl)(hd:(x == Str.ofString "__debug__")=false:=by decide):QE X (Expr.Name x pos) (cn (T.int i)):=
 ⟨q_gint (hm:=hm) (r:=r) (hg:=hg) (hd:=hd)⟩
theorem af {X:Cx}:QA X [] ah:=
 ⟨qa_nil ⟩
theorem ae {X:Cx}{e:Expr}{es:List Expr}{f:En->Rs T}{g:En->Rs (List T)}(he:QE X e f)(hr:QA X es g)(hn:bo e=true:=by rfl):QA X (e::es) (ac f g):=
 ⟨qa_c (he:=he.h) (hr:=hr.h) (hn:=hn)⟩
theorem bu {X:Cx}{es:List Expr}{x1:Nat}{pos:Pos}{f:En->Rs (List T)}(h:QA X es f):QE X (Expr.Tuple es x1 pos) (bi f):=
 ⟨q_tup (h:=h.h)⟩
theorem cJ {X:Cx}{es:List Expr}{pos:Pos}{f:En->Rs (List T)}(h:QA X es f):QE X (Expr.List es pos) (bY f):=
 ⟨q_lst (h:=h.h)⟩
theorem ar {X:Cx}{a b:Expr}{fa fb:En->Rs T}{pos:Pos}{op:Operator}{g:T->T->Rs T}(ho:OpT X (binaryOp op) g)(ha:QE X a fa)(hb:QE X b fb):QE X (Expr.BinOp a op b pos) (o2 g fa fb):=
 ⟨q_bin (ho:=ho) (ha:=ha.h) (hb:=hb.h)⟩
theorem dF {X:Cx}{a b:Expr}{fa fb:En->Rs T}{pos:Pos}{op:CmpOp}{g:T->T->Rs T}(ho:OpT X (compareOp op) g)(ha:QE X a fa)(hb:QE X b fb)(hm:behindInMarks op b=false:=by rfl):QE X (Expr.Compare a [op] [b] pos) (o2 g fa fb):=
 ⟨q_cmp (ho:=ho) (ha:=ha.h) (hb:=hb.h) (hm:=hm)⟩
theorem zq_neg {X:Cx}{a:Expr}{fa:En->Rs T}{pos:Pos}(ha:QE X a fa):QE X (Expr.UnaryOp UnaryOp.USub a pos) (o1 negT fa):=
 ⟨q_neg (ha:=ha.h)⟩
theorem zq_chain {X:Cx}{a b c:Expr}{fa fb fc:En->Rs T}{pos:Pos}{op op':CmpOp}{g g':T->T->Rs T}(ho:OpT X (compareOp op) g)(ho':OpT X (compareOp op') g')(ha:QE X a fa)(hb:QE X b fb)(hc:QE X c fc)(hm:lastMarks [op,op'] [b,c] =false:=by with_unfolding_all rfl):QE X (Expr.Compare a [op,op'] [b,c] pos) (ch g g' fa fb fc):=
 ⟨q_chain (ho:=ho) (ho':=ho') (ha:=ha.h) (hb:=hb.h) (hc:=hc.h) (hm:=hm)⟩
theorem cK {X:Cx}{e:Expr}{f:En->Rs T}(h:QE X e f)(he:∀ (whole:Sem Value),PySem.isTrue e (Cx.env X) whole=(do let v <-whole;standAt (Expr.pos e);holding [v] (truthy v)):=by intro _;rfl):QT X e (tb f):=
 ⟨qt_val (h:=h.h) (he:=he)⟩
theorem aZ {X:Cx}{a b:Expr}{fa fb:En->Rs T}{pos:Pos}{op:CmpOp}{g:T->T->Rs T}(ho:OpT X (compareOp op) g)(ha:QE X a fa)(hb:QE X b fb)(hm:behindInMarks op b=false:=by rfl):QT X (Expr.Compare a [op] [b] pos) (tb (o2 g fa fb)):=
 ⟨qt_cmp (ho:=ho) (ha:=ha.h) (hb:=hb.h) (hm:=hm)⟩
theorem zqt_chain {X:Cx}{a b c:Expr}{fa fb fc:En->Rs T}{pos:Pos}{op op':CmpOp}{g g':T->T->Rs T}(ho:OpT X (compareOp op) g)(ho':OpT X (compareOp op') g')(ha:QE X a fa)(hb:QE X b fb)(hc:QE X c fc)(hm:lastMarks [op,op'] [b,c] =false:=by with_unfolding_all rfl):QT X (Expr.Compare a [op,op'] [b,c] pos) (tb (ch g g' fa fb fc)):=
 ⟨qt_chain (ho:=ho) (ho':=ho') (ha:=ha.h) (hb:=hb.h) (hc:=hc.h) (hm:=hm)⟩
theorem zqw_and1 {X:Cx}{a:Expr}{pos:Pos}{f:En->Rs Bool}(ha:QT X a f):QW X (Expr.BoolOp BoolOp.And [a] pos) f:=
 ⟨qw_and1 (ha:=ha.h)⟩
theorem ff {X:Cx}{a:Expr}{pos:Pos}{f:En->Rs Bool}(ha:QT X a f):QW X (Expr.BoolOp BoolOp.Or [a] pos) f:=
 ⟨qw_or1 (ha:=ha.h)⟩
theorem zqw_and {X:Cx}{a b:Expr}{pos:Pos}{f g:En->Rs Bool}{cq:List Expr}(ha:QT X a f)(hb:QW X (Expr.BoolOp BoolOp.And (b::cq) pos) g):QW X (Expr.BoolOp BoolOp.And (a::b::cq) pos) (andB f g):=
 ⟨qw_and (ha:=ha.h) (hb:=hb.h)⟩
theorem gc {X:Cx}{a b:Expr}{pos:Pos}{f g:En->Rs Bool}{cq:List Expr}(ha:QT X a f)(hb:QW X (Expr.BoolOp BoolOp.Or (b::cq) pos) g):QW X (Expr.BoolOp BoolOp.Or (a::b::cq) pos) (orB f g):=
 ⟨qw_or (ha:=ha.h) (hb:=hb.h)⟩
theorem zqt_w {X:Cx}{f:En->Rs Bool}{e:Expr}(h:QW X e f):QT X e f:=
 ⟨qt_w (h:=h.h)⟩
theorem cX {X:Cx}{a:Expr}{pos:Pos}{f:En->Rs Bool}(ha:QT X a f):QT X (Expr.UnaryOp UnaryOp.Not a pos) (dM f):=
 ⟨qt_not (ha:=ha.h)⟩
theorem dw {X:Cx}{a:Expr}{fa:En->Rs T}{pos:Pos}{op:BoolOp}(h:QE X a fa):QE X (Expr.BoolOp op [a] pos) fa:=
 ⟨q_one (h:=h.h)⟩
theorem da {X:Cx}{a b:Expr}{fa fb:En->Rs T}{pos:Pos}{cq:List Expr}(ha:QE X a fa)(hb:QE X (Expr.BoolOp BoolOp.And (b::cq) pos) fb):QE X (Expr.BoolOp BoolOp.And (a::b::cq) pos) (cW fa fb):=
 ⟨q_and (ha:=ha.h) (hb:=hb.h)⟩
theorem zq_or {X:Cx}{a b:Expr}{fa fb:En->Rs T}{pos:Pos}{cq:List Expr}(ha:QE X a fa)(hb:QE X (Expr.BoolOp BoolOp.Or (b::cq) pos) fb):QE X (Expr.BoolOp BoolOp.Or (a::b::cq) pos) (orV fa fb):=
 ⟨q_or (ha:=ha.h) (hb:=hb.h)⟩
theorem zq_not {X:Cx}{a:Expr}{fa:En->Rs T}{pos:Pos}(ha:QE X a fa):QE X (Expr.UnaryOp UnaryOp.Not a pos) (o1 notV fa):=
 ⟨q_not (ha:=ha.h)⟩
theorem zq_if {X:Cx}{a b c:Expr}{fa fb:En->Rs T}{pos:Pos}{f:En->Rs Bool}(hc:QT X c f)(ha:QE X a fa)(hb:QE X b fb):QE X (Expr.IfExp c a b pos) (ifE f fa fb):=
 ⟨q_if (hc:=hc.h) (ha:=ha.h) (hb:=hb.h)⟩
theorem aF {X:Cx}{a b:Expr}{fa fb:En->Rs T}{pos:Pos}(ha:QE X a fa)(hb:QE X b fb)(hs:PlainIx b:=by intro _ _;rfl):QE X (Expr.Subscript a b pos) (o2 aO fa fb):=
 ⟨q_ix (ha:=ha.h) (hb:=hb.h) (hs:=hs)⟩
theorem dD {X:Cx}:QO X none pN:=
 ⟨qp_none ⟩
theorem dC {X:Cx}{a:Expr}{fa:En->Rs T}(ha:QE X a fa):QO X (some a) (pS fa):=
 ⟨qp_some (ha:=ha.h)⟩
theorem dE {X:Cx}{a:Expr}{fa:En->Rs T}{pos:Pos}{lo hi:Option Expr}{p2:Pos}{fl fu:En->Rs (Option Int)}(ha:QE X a fa)(hl:QO X lo fl)(hu:QO X hi fu):QE X (Expr.Subscript a (Expr.Slice lo hi none p2) pos) (sl fa fl fu):=
 ⟨q_slice (ha:=ha.h) (hl:=hl.h) (hu:=hu.h)⟩
theorem zq_rev {X:Cx}{a:Expr}{fa:En->Rs T}{pos:Pos}{j:Nat}{p1 p2 p3:Pos}(ha:QE X a fa):QE X (Expr.Subscript a (Expr.Slice none none (some (Expr.UnaryOp UnaryOp.USub (Expr.Constant (Const.int 1) j p1) p2)) p3) pos) (o1 revT fa):=
 ⟨q_rev (ha:=ha.h)⟩
theorem cE {X:Cx}{e:Expr}{es:List Expr}{fs:En->Rs (List T)}{pos p:Pos}{x:Str}{id:String}{g:List T->Rs T}(hc:CallT X (Value.builtin id) g)(hm:Cx.mg X x=none)(hv:bootBuiltins x=some (Value.builtin id))(ha:QA X (e::es) fs)(hn:cj (e::es)=true:=by rfl)(hg:Gl X x:=by rfl)(h1:x≠Str.ofString "__name__":=by decide)(h2:(x == Str.ofString "__debug__")=false:=by decide):QE X (Expr.Call (Expr.Name x p) (e::es) [] pos) (cl g fs):=
 ⟨q_cB (hc:=hc) (hm:=hm) (hv:=hv) (ha:=ha.h) (hn:=hn) (hg:=hg) (h1:=h1) (h2:=h2)⟩
theorem zq_cT {X:Cx}{e:Expr}{es:List Expr}{fs:En->Rs (List T)}{pos p:Pos}{x:Str}{Ty:String}{g:List T->Rs T}(hc:CallT X (Value.type Ty) g)(hm:Cx.mg X x=none)(hv:bootBuiltins x=some (Value.type Ty))(ha:QA X (e::es) fs)(hn:cj (e::es)=true:=by rfl)(hg:Gl X x:=by rfl)(h1:x≠Str.ofString "__name__":=by decide)(h2:(x == Str.ofString "__debug__")=false:=by decide):QE X (Expr.Call (Expr.Name x p) (e::es) [] pos) (cl g fs):=
 ⟨q_cT (hc:=hc) (hm:=hm) (hv:=hv) (ha:=ha.h) (hn:=hn) (hg:=hg) (h1:=h1) (h2:=h2)⟩
theorem zq_c {X:Cx}{e:Expr}{es:List Expr}{fs:En->Rs (List T)}{pos p:Pos}{x:Str}{n k:Nat}{f:Addr}{fd:FuncData}{ps:List Str}{g:List T->Rs T}(F:FnB (Cx.prog X) (Cx.w X) (Cx.K X) (Cx.mg X) (Cx.base X) k f fd ps n g)(hr:Room k (Cx.A X))(hm:Cx.mg X x=some (Value.ref f))(hk:W.keepIn (Cx.K X) (Value.ref f)=true)(hb:L2.Binds (Cx.K X) fd ps [])(hl:∀ (ρ:En) (ts:List T),fs ρ=Rs.ok ts->List.length ts=n)(ha:QA X (e::es) fs)(hps:List.length ps=n:=by rfl)(hn:cj (e::es)=true:=by rfl)(hg:Gl X x:=by rfl)(h2:(x == Str.ofString "__debug__")=false:=by decide):QE X (Expr.Call (Expr.Name x p) (e::es) [] pos) (cl g fs):=
 ⟨q_c (F:=F) (hr:=hr) (hm:=hm) (hk:=hk) (hb:=hb) (hl:=hl) (ha:=ha.h) (hps:=hps) (hn:=hn) (hg:=hg) (h2:=h2)⟩
theorem zq_is {X:Cx}{a:Expr}{fa:En->Rs T}{pos p p2:Pos}{tn:Str}{Ty:String}(hm:Cx.mg X (Str.ofString "isinstance")=none)(hmt:Cx.mg X tn=none)(hv:bootBuiltins tn=some (Value.type Ty))(ha:QE X a fa)(hn:bo a=true:=by rfl)(hg:Gl X (Str.ofString "isinstance"):=by rfl)(hgt:Gl X tn:=by rfl)(h1:tn≠Str.ofString "__name__":=by decide)(h2:(tn == Str.ofString "__debug__")=false:=by decide):QE X (Expr.Call (Expr.Name (Str.ofString "isinstance") p) [a,Expr.Name tn p2] [] pos) (o1 (isT Ty) fa):=
 ⟨q_is (hm:=hm) (hmt:=hmt) (hv:=hv) (ha:=ha.h) (hn:=hn) (hg:=hg) (hgt:=hgt) (h1:=h1) (h2:=h2)⟩
theorem ai {X:Cx}{pos:Pos}{x:Str}(i:Nat)(hN:List.Nodup (Cx.N X))(hi:(Cx.N X)[i]? =some x:=by rfl)(hx:L2.Loc (Env.scope (Cx.env X)) x:=by first | exact Or.inl rfl | exact Or.inr rfl)(hf:Cx.fn X x=true\/List.lookup x (Scope.names (Env.scope (Cx.env X)))=some NameKind.local:=by first | exact .inl rfl | exact .inr rfl | assumption):QG X (Expr.Name x pos) (gN i):=
 ⟨qg_name (i:=i) (hN:=hN) (hi:=hi) (hx:=hx) (hf:=hf)⟩
theorem df {X:Cx}:QGs X [] gsN:=
 ⟨qgs_nil ⟩
theorem aN {X:Cx}{e:Expr}{es:List Expr}{g:T->En->Rs En}{gs:List T->En->Rs En}(h1:QG X e g)(h2:QGs X es gs)(hs:List.map (fun x=>Prod.snd x) (assignEach (e::es) (Cx.env X))=assign e (Cx.env X)::List.map (fun x=>Prod.snd x) (assignEach es (Cx.env X)):=by rfl):QGs X (e::es) (eR g gs):=
 ⟨qgs_cons (h1:=h1.h) (h2:=h2.h) (hs:=hs)⟩
theorem d6 {X:Cx}{es:List Expr}{pos:Pos}{k n:Nat}{gs:List T->En->Rs En}(hc:Cx.calm X=true)(h:QGs X es gs)(hn:List.length (assignEach es (Cx.env X))=n:=by rfl)(hst:List.findIdx? (fun x=>Prod.fst x) (assignEach es (Cx.env X))=none:=by rfl):QG X (Expr.Tuple es k pos) (gT n gs):=
 ⟨qg_tup (hc:=hc) (h:=h.h) (hn:=hn) (hst:=hst)⟩
theorem cv {X:Cx}{a:Expr}{fs:En->Rs (List T)}{pos p:Pos}{tg:Expr}(hm:Cx.mg X (Str.ofString "range")=none)(ha:QA X [a] fs)(hg:Gl X (Str.ofString "range"):=by rfl)(hs:starEach [a] (Cx.env X)= [(false,eval a (Cx.env X))]:=by rfl):QI X tg (Expr.Call (Expr.Name (Str.ofString "range") p) [a] [] pos) (iR fs):=
 ⟨qi_range1 (hm:=hm) (ha:=ha.h) (hg:=hg) (hs:=hs)⟩
theorem zqi_range2 {X:Cx}{a b:Expr}{fs:En->Rs (List T)}{pos p:Pos}{tg:Expr}(hm:Cx.mg X (Str.ofString "range")=none)(ha:QA X [a,b] fs)(hg:Gl X (Str.ofString "range"):=by rfl)(hs:starEach [a,b] (Cx.env X)= [(false,eval a (Cx.env X)),(false,eval b (Cx.env X))]:=by rfl)(hs2:starEach [b] (Cx.env X)= [(false,eval b (Cx.env X))]:=by rfl):QI X tg (Expr.Call (Expr.Name (Str.ofString "range") p) [a,b] [] pos) (iR fs):=
 ⟨qi_range2 (hm:=hm) (ha:=ha.h) (hg:=hg) (hs:=hs) (hs2:=hs2)⟩
theorem bR {X:Cx}:QIf X [] bT:=
 ⟨qif_nil ⟩
theorem zqif_one {X:Cx}{c:Expr}{f:En->Rs Bool}(h:QT X c f):QIf X [c] f:=
 ⟨qif_one (h:=h.h)⟩
theorem fU {X:Cx}{pos:Pos}{elt tg iter:Expr}{ifs:List Expr}{scope:Scope}{N':List Str}{src:List (Option Nat)}{fi:En->Rs (List T)}{tgt:T->En->Rs En}{fc:En->Rs Bool}{fe:En->Rs T}(hc:Cx.calm X=true)(S:LcScope X scope N' src)(hi:QI X tg iter fi)(block:∀ (cl:List (Str×Addr)) (C:Addr) (s₀:Shared) (H₀:Hp) (fp:List Addr),QG (bL X scope cl N' C s₀ H₀ fp) tg tgt/\QIf (bL X scope cl N' C s₀ H₀ fp) ifs fc/\QE (bL X scope cl N' C s₀ H₀ fp) elt fe)(hs:∀ (x:Value),foldedSetIterable iter (Cx.env X) x=pure x:=by intro _;rfl):QE X (Expr.ListComp elt [{ target:=tg,iter:=iter,ifs:=ifs,is_async:=0 }] scope pos) (fw fi src tgt fc fe):=
 ⟨q_lc (hc:=hc) (S:=S) (hi:=hi.h) (block:=fun a1 a2 a3 a4 a5=>⟨(block a1 a2 a3 a4 a5).1.h,(block a1 a2 a3 a4 a5).2.1.h,(block a1 a2 a3 a4 a5).2.2.h⟩) (hs:=hs)⟩
theorem bj {X:Cx}:QSs X [] sN:=
 ⟨qs_nil ⟩
theorem ak {X:Cx}{st:Stmt}{cq:List Stmt}{F G:En->Rs Fl}(h1:QS X st F)(h2:QSs X cq G):QSs X (st::cq) (az F G):=
 ⟨qs_cons (h1:=h1.h) (h2:=h2.h)⟩
theorem ao {X:Cx}{st:Stmt}{F:En->Rs Fl}(h:QS X st F):QSs X [st] F:=
 ⟨qs_one (h:=h.h)⟩
theorem ay {X:Cx}{a:Expr}{fa:En->Rs T}{pos:Pos}(ha:QE X a fa):QS X (Stmt.Return (some a) pos) (aM fa):=
 ⟨qs_ret (ha:=ha.h)⟩
theorem bJ {X:Cx}{c:Expr}{pos:Pos}{f:En->Rs Bool}{A B:List Stmt}{F G:En->Rs Fl}(hc:QT X c f)(ha:QSs X A F)(hb:QSs X B G):QS X (Stmt.If c A B pos) (fo f F G):=
 ⟨qs_if (hc:=hc.h) (ha:=ha.h) (hb:=hb.h)⟩
theorem zqs_lc {X:Cx}{pos:Pos}{elt tg iter:Expr}{ifs:List Expr}{scope:Scope}{spos py:Pos}{N':List Str}{src:List (Option Nat)}{fi:En->Rs (List T)}{tgt:T->En->Rs En}{fc:En->Rs Bool}{fe:En->Rs T}(i:Nat){y:Str}(hc:Cx.calm X=true)(S:LcScope X scope N' src)(hi:QI X tg iter fi)(block:∀ (cl:List (Str×Addr)) (C:Addr) (s₀:Shared) (H₀:Hp) (fp:List Addr),QG (bL X scope cl N' C s₀ H₀ fp) tg tgt/\QIf (bL X scope cl N' C s₀ H₀ fp) ifs fc/\QE (bL X scope cl N' C s₀ H₀ fp) elt fe)(hN:List.Nodup (Cx.N X))(hiy:(Cx.N X)[i]? =some y:=by rfl)(hy:L2.Loc (Env.scope (Cx.env X)) y:=by first | exact Or.inl rfl | exact Or.inr rfl)(hsw:swapsWith (Expr.ListComp elt [{ target:=tg,iter:=iter,ifs:=ifs,is_async:=0 }] scope pos) (some (Expr.Name y py)) (Pos.line spos) (Cx.env X)=pure true:=by rfl)(hf:Cx.fn X y=true\/List.lookup y (Scope.names (Env.scope (Cx.env X)))=some NameKind.local:=by first | exact .inl rfl | exact .inr rfl | assumption)(hs:∀ (x:Value),foldedSetIterable iter (Cx.env X) x=pure x:=by intro _;rfl):QS X (Stmt.Assign [Expr.Name y py] (Expr.ListComp elt [{ target:=tg,iter:=iter,ifs:=ifs,is_async:=0 }] scope pos) spos) (b8 (fw fi src tgt fc fe) (gN i)):=
 ⟨qs_lc (i:=i) (hc:=hc) (S:=S) (hi:=hi.h) (block:=fun a1 a2 a3 a4 a5=>⟨(block a1 a2 a3 a4 a5).1.h,(block a1 a2 a3 a4 a5).2.1.h,(block a1 a2 a3 a4 a5).2.2.h⟩) (hN:=hN) (hiy:=hiy) (hy:=hy) (hsw:=hsw) (hf:=hf) (hs:=hs)⟩
theorem aE {X:Cx}{a:Expr}{fa:En->Rs T}{pos:Pos}{tg:Expr}{g:T->En->Rs En}(ha:QE X a fa)(hg:QG X tg g)(hs:swapsWithSole [tg] a (Pos.line pos) (Cx.env X)=pure false:=by rfl)(hw:swappedStores [tg] a (Cx.env X)=pure none:=by rfl)(h1:List.map (fun x=>Prod.snd x) (assignEach [tg] (Cx.env X))= [assign tg (Cx.env X)]:=by rfl):QS X (Stmt.Assign [tg] a pos) (b8 fa g):=
 ⟨qs_asg (ha:=ha.h) (hg:=hg.h) (hs:=hs) (hw:=hw) (h1:=h1)⟩
theorem zqs_expr {X:Cx}{a:Expr}{fa:En->Rs T}{pos:Pos}(ha:QE X a fa)(hs:swapsWith a none (Pos.line pos) (Cx.env X)=pure false:=by rfl):QS X (Stmt.Expr a pos) (sEx fa):=
 ⟨qs_expr (ha:=ha.h) (hs:=hs)⟩
theorem bD {X:Cx}{pos:Pos}{tg iter:Expr}{body:List Stmt}{fi:En->Rs (List T)}{g:T->En->Rs En}{F:En->Rs Fl}(hc:Cx.calm X=true)(hi:QI X tg iter fi)(hg:QG (Cx.nox X) tg g)(hb:QSs (Cx.nox X) body F)(hs:∀ (x:Value),foldedSetIterable iter (Cx.env X) x=pure x:=by intro _;rfl):QS X (Stmt.For tg iter body [] pos) (dy fi g F):=
 ⟨qs_for (hc:=hc) (hi:=hi.h) (hg:=hg.h) (hb:=hb.h) (hs:=hs)⟩
theorem zqs_while {X:Cx}{pos:Pos}{c:Expr}{body:List Stmt}{fc:En->Rs Bool}{F:En->Rs Fl}(n:Nat)(hc:QT (Cx.nox X) c fc)(hb:QSs (Cx.nox X) body F):QS X (Stmt.While c body [] pos) (bw fc F n):=
 ⟨qs_while (n:=n) (hc:=hc.h) (hb:=hb.h)⟩
theorem bF {X:Cx}{a:Expr}{fa:En->Rs T}{tg:Expr}(ha:QE X a fa):QI X tg a (iS fa):=
 ⟨qi_seq (ha:=ha.h)⟩
theorem fz {X:Cx}{a:Expr}{fs:En->Rs (List T)}{p pos:Pos}{elts:List Expr}{kk:Nat}{tpos:Pos}(hm:Cx.mg X (Str.ofString "enumerate")=none)(ha:QA X [a] fs)(hg:Gl X (Str.ofString "enumerate"):=by rfl)(hs:starEach [a] (Cx.env X)= [(false,eval a (Cx.env X))]:=by rfl):QI X (Expr.Tuple elts kk tpos) (Expr.Call (Expr.Name (Str.ofString "enumerate") p) [a] [] pos) (iE fs):=
 ⟨qi_enum (hm:=hm) (ha:=ha.h) (hg:=hg) (hs:=hs)⟩
theorem zqs_newL {X:Cx}{es:List Expr}{pos p2 p3:Pos}{x:Str}(i:Nat){f:En->Rs (List T)}(hN:List.Nodup (Cx.N X))(ha:QA X es f)(hi:(Cx.N X)[i]? =some x:=by rfl)(hx:L2.Loc (Env.scope (Cx.env X)) x:=by first | exact Or.inl rfl | exact Or.inr rfl)(hs:swapsWith (Expr.List es p2) (some (Expr.Name x p3)) (Pos.line pos) (Cx.env X)=pure false:=by rfl)(hf:Cx.fn X x=true\/List.lookup x (Scope.names (Env.scope (Cx.env X)))=some NameKind.local:=by first | exact .inl rfl | exact .inr rfl | assumption):QS X (Stmt.Assign [Expr.Name x p3] (Expr.List es p2) pos) (sNewL i f):=
 ⟨qs_newL (i:=i) (hN:=hN) (ha:=ha.h) (hi:=hi) (hx:=hx) (hs:=hs) (hf:=hf)⟩
theorem gq {X:Cx}{a:Expr}{fa:En->Rs T}{pos p2:Pos}{x:Str}(i:Nat){apos cpos:Pos}(ha:QE X a fa)(hN:(Cx.N X)[i]? =some x:=by rfl)(hv:Vis (Env.scope (Cx.env X)) x:=by first | exact Or.inl rfl | exact Or.inr (Or.inl rfl) | exact Or.inr (Or.inr rfl))(hn:bo a=true:=by rfl)(hbase:attributeBase (Expr.Name x p2) (Str.ofString "append") (Cx.env X) (eval (Expr.Name x p2) (Cx.env X))=eval (Expr.Name x p2) (Cx.env X):=by rfl)(hline:(Pos.endLine apos == Pos.line cpos)=true:=by rfl)(hd:(x == Str.ofString "__debug__")=false:=by decide)(hcd:(x == Str.ofString "__classdict__")=false:=by decide)(hsw:swapsWith (Expr.Call (Expr.Attribute (Expr.Name x p2) (Str.ofString "append") apos) [a] [] cpos) none (Pos.line pos) (Cx.env X)=pure false:=by rfl):QS X (Stmt.Expr (Expr.Call (Expr.Attribute (Expr.Name x p2) (Str.ofString "append") apos) [a] [] cpos) pos) (sApp i fa):=
 ⟨qs_app (i:=i) (ha:=ha.h) (hN:=hN) (hv:=hv) (hn:=hn) (hbase:=hbase) (hline:=hline) (hd:=hd) (hcd:=hcd) (hsw:=hsw)⟩
theorem zqs_ext {X:Cx}{a:Expr}{fa:En->Rs T}{pos p2:Pos}{x:Str}(i:Nat){apos cpos:Pos}(ha:QE X a fa)(hN:(Cx.N X)[i]? =some x:=by rfl)(hv:Vis (Env.scope (Cx.env X)) x:=by first | exact Or.inl rfl | exact Or.inr (Or.inl rfl) | exact Or.inr (Or.inr rfl))(hn:bo a=true:=by rfl)(hbase:attributeBase (Expr.Name x p2) (Str.ofString "extend") (Cx.env X) (eval (Expr.Name x p2) (Cx.env X))=eval (Expr.Name x p2) (Cx.env X):=by rfl)(hline:(Pos.endLine apos == Pos.line cpos)=true:=by rfl)(hd:(x == Str.ofString "__debug__")=false:=by decide)(hcd:(x == Str.ofString "__classdict__")=false:=by decide)(hsw:swapsWith (Expr.Call (Expr.Attribute (Expr.Name x p2) (Str.ofString "extend") apos) [a] [] cpos) none (Pos.line pos) (Cx.env X)=pure false:=by rfl):QS X (Stmt.Expr (Expr.Call (Expr.Attribute (Expr.Name x p2) (Str.ofString "extend") apos) [a] [] cpos) pos) (sExt i fa):=
 ⟨qs_ext (i:=i) (ha:=ha.h) (hN:=hN) (hv:=hv) (hn:=hn) (hbase:=hbase) (hline:=hline) (hd:=hd) (hcd:=hcd) (hsw:=hsw)⟩
theorem gp {X:Cx}(i:Nat){st:Stmt}{F:En->Rs Fl}(h:QS X st F):QS X st (sDis i F):=
 ⟨qs_dis (i:=i) (h:=h.h)⟩
theorem zq_ln {X:Cx}(i:Nat){e:Expr}{f:En->Rs T}(h:QE X e f):QE X e (ln i f):=
 ⟨q_ln (i:=i) (h:=h.h)⟩
theorem zqt_ln {X:Cx}(i:Nat){e:Expr}{f:En->Rs Bool}(h:QT X e f):QT X e (lnB i f):=
 ⟨qt_ln (i:=i) (h:=h.h)⟩
theorem zqs_ct {X:Cx}{pos:Pos}:QS X (Stmt.Continue pos) sCt:=
 ⟨qs_ct ⟩
theorem zqs_raise {X:Cx}{c:Str}{msg:Str}{C:Addr}{bm:List Value}{np p1 cpos pos:Pos}{j:Nat}(O:OX X.K C bm)(hm:X.mg c=some (.ref C))(hc:X.calm=true:=by rfl)(hg:Gl X c:=by rfl)(hd:(c == ("__debug__" : Str))=false:=by decide) :
  QS X (.Raise (some (.Call (.Name c np) [.Constant (.str msg) j p1] [] cpos)) none pos) (sErr c):=⟨qs_raise O.own hc hm hg hd⟩
theorem zqs_try {X:Cx}{body suite:List Stmt}{b0:Stmt}{F:En->Rs Fl}{h:Str->Rs T}{ce n:Str}{CE:Addr}{bmE:List Value}(i:Nat){np hpos pos:Pos}(hN:X.N.Nodup)(hm:X.mg ce=some (.ref CE))(OE:OX X.K CE bmE)
  (hb:∀ pn xe,QSs { X with pn:=pn,xe:=xe } body F) (hs:SuiteOk X i (b0::suite) CE h) (hst:X.stack=X.env::X.outer:=by rfl) (hfe:X.env.frame=some X.env.locals:=by rfl) (hcl:∀ x c,X.env.cells.lookup x≠some c) (hex:X.ex= []:=by rfl)
  (hi:X.N[i]? =some n:=by rfl) (hloc:X.env.scope.names.lookup n=some .local:=by rfl) (hg:Gl X ce:=by rfl) (hd:(ce == ("__debug__" : Str))=false:=by decide) :
  QS X (.Try body [.ExceptHandler (some (.Name ce np)) (some n) (b0::suite) hpos] [] [] pos) (sTry F h):=⟨qs_try hst hfe hcl hex hN hi hloc hm OE (fun pn xe=>(hb pn xe).h) hs hg hd⟩
theorem zfnb_ok {P:Program}{w:World}{K:PySem.W.Frag}{mg:Str->Option Value}{base:Heap}{x qual:Str}{st:Stmt}{f:Addr}{fd:FuncData}{N ps:List Str}{k n:Nat}{F:En->Rs Fl}(Fn:L2.Fun K x qual st f fd)(S:aB N ps (aj st))(hn:ps.length=n)
  (hbody:∀ (cdv:Value) (A:Around) (outer:List Env) (s:Shared) (H:Hp) (E:XK),Room k (A.deeper (envOfC qual (aj st) s.heap.objs.size f cdv)) →
   ∀xe,QSs ((cxOf CX0 P w K mg base N qual (aj st) f cdv A outer s H E).wish xe) (cA st) F):FnB P w K mg base (k+1) f fd ps n (val n N.length F):=fnb_ok Fn S hn fun cdv A outer s H E hr xe=>(hbody cdv A outer s H E hr xe).h
theorem cw {X:Cx}{a b:Expr}{fa fb:En->Rs T}{pos:Pos}(hu:Around.units (Cx.A X)+1<cLine)(ha:QE X a fa)(hb:QE X b fb)(hs:NoSl b:=by intro _ _;rfl):QE X (Expr.Subscript a b pos) (o2 bh fa fb):=
 ⟨q_dix (hu:=hu) (ha:=ha.h) (hb:=hb.h) (hs:=hs)⟩
theorem zq_dget {X:Cx}{a b:Expr}{fa fb:En->Rs T}{apos cpos:Pos}(hu:Around.units (Cx.A X)+1<cLine)(ha:QE X a fa)(hb:QE X b fb)(hn:bo b=true:=by rfl)(hbase:attributeBase a (Str.ofString "get") (Cx.env X) (eval a (Cx.env X))=eval a (Cx.env X):=by rfl)(hline:(Pos.endLine apos == Pos.line cpos)=true:=by rfl):QE X (Expr.Call (Expr.Attribute a (Str.ofString "get") apos) [b] [] cpos) (oD dgetT fa fb):=
 ⟨q_dget (hu:=hu) (ha:=ha.h) (hb:=hb.h) (hn:=hn) (hbase:=hbase) (hline:=hline)⟩
theorem zq_lindex {X:Cx}{a b:Expr}{fa fb:En->Rs T}{apos cpos:Pos}(hu:Around.units (Cx.A X)+61<cLine)(ha:QE X a fa)(hb:QE X b fb)(hn:bo b=true:=by rfl)(hbase:attributeBase a (Str.ofString "index") (Cx.env X) (eval a (Cx.env X))=eval a (Cx.env X):=by rfl)(hline:(Pos.endLine apos == Pos.line cpos)=true:=by rfl):QE X (Expr.Call (Expr.Attribute a (Str.ofString "index") apos) [b] [] cpos) (oL fY fa fb):=
 ⟨q_lindex (hu:=hu) (ha:=ha.h) (hb:=hb.h) (hn:=hn) (hbase:=hbase) (hline:=hline)⟩
theorem zqs_newD {X:Cx}{e:Expr}{f:En->Rs T}{x:Str}{p pos p2 p3:Pos}(i:Nat)(hu:Around.units (Cx.A X)+8<cLine)(hc:Cx.calm X=true)(hm:Cx.mg X (Str.ofString "dict")=none)(hN:List.Nodup (Cx.N X))(ha:QE X e f)(hst:bo e=true:=by rfl)(hg:Gl X (Str.ofString "dict"):=by rfl)(hi:(Cx.N X)[i]? =some x:=by rfl)(hx:L2.Loc (Env.scope (Cx.env X)) x:=by first | exact Or.inl rfl | exact Or.inr rfl)(hs:swapsWith (Expr.Call (Expr.Name (Str.ofString "dict") p) [e] [] p2) (some (Expr.Name x p3)) (Pos.line pos) (Cx.env X)=pure false:=by rfl)(hf:Cx.fn X x=true\/List.lookup x (Scope.names (Env.scope (Cx.env X)))=some NameKind.local:=by first | exact .inl rfl | exact .inr rfl | assumption):QS X (Stmt.Assign [Expr.Name x p3] (Expr.Call (Expr.Name (Str.ofString "dict") p) [e] [] p2) pos) (sNewD i f):=
 ⟨qs_newD (i:=i) (hu:=hu) (hc:=hc) (hm:=hm) (hN:=hN) (ha:=ha.h) (hst:=hst) (hg:=hg) (hi:=hi) (hx:=hx) (hs:=hs) (hf:=hf)⟩
theorem zqs_put {X:Cx}{b c:Expr}{fb fc:En->Rs T}{pos p2 p3:Pos}{x:Str}(i:Nat)(hu:Around.units (Cx.A X)+1<cLine)(hb:QE X b fb)(hc:QE X c fc)(hN:(Cx.N X)[i]? =some x:=by rfl)(hv:Vis (Env.scope (Cx.env X)) x:=by first | exact Or.inl rfl | exact Or.inr (Or.inl rfl) | exact Or.inr (Or.inr rfl))(hd:(x == Str.ofString "__debug__")=false:=by decide)(hcd:(x == Str.ofString "__classdict__")=false:=by decide)(hs:swapsWith c (some (Expr.Subscript (Expr.Name x p2) b p3)) (Pos.line pos) (Cx.env X)=pure false:=by rfl):QS X (Stmt.Assign [Expr.Subscript (Expr.Name x p2) b p3] c pos) (sPut i fb fc):=
 ⟨qs_put (i:=i) (hu:=hu) (hb:=hb.h) (hc:=hc.h) (hN:=hN) (hv:=hv) (hd:=hd) (hcd:=hcd) (hs:=hs)⟩
theorem zqs_put2 {X:Cx}{a b c:Expr}{fa fb fc:En->Rs T}{pos p2 p3 p4:Pos}{x:Str}(i:Nat)(hu:Around.units (Cx.A X)+1<cLine)(ha:QE X a fa)(hb:QE X b fb)(hc:QE X c fc)(hsl:NoSl a:=by intro _ _;rfl)(hN:(Cx.N X)[i]? =some x:=by rfl)(hv:Vis (Env.scope (Cx.env X)) x:=by first | exact Or.inl rfl | exact Or.inr (Or.inl rfl) | exact Or.inr (Or.inr rfl))(hd:(x == Str.ofString "__debug__")=false:=by decide)(hcd:(x == Str.ofString "__classdict__")=false:=by decide)(hs:swapsWith c (some (Expr.Subscript (Expr.Subscript (Expr.Name x p2) a p3) b p4)) (Pos.line pos) (Cx.env X)=pure false:=by rfl):QS X (Stmt.Assign [Expr.Subscript (Expr.Subscript (Expr.Name x p2) a p3) b p4] c pos) (sPut2 i fa fb fc):=
 ⟨qs_put2 (i:=i) (hu:=hu) (ha:=ha.h) (hb:=hb.h) (hc:=hc.h) (hsl:=hsl) (hN:=hN) (hv:=hv) (hd:=hd) (hcd:=hcd) (hs:=hs)⟩
end Tr
namespace Tr
open PySem PySem.Spec L2
theorem LcScope.byN {X:Cx}{scope:Scope}{N N':List Str}{src:List (Option Nat)}(hN:X.N=N)(hk:scope.kind= .function)(h:lcOk scope.names N scope.names N' src=true)
  (hf:(scope.names.all fun y=>y.2 != .free||(X.env.scope.names.lookup y.1 == some .cell||X.env.scope.names.lookup y.1 == some .free))=true):LcScope X scope N' src:=by
 have z:=LcScope.by (X:={ X with env:={ X.env with scope:=scope } }) hN rfl hk h
 refine⟨hk,z.cel,z.loc,z.len,z.from_,fun x hx=> ?_⟩
 have:=List.all_eq_true.mp hf _ hx
 simp only [bne_self_eq_false,Bool.false_or,Bool.or_eq_true]at this
 show X.env.scope.names.lookup x=_\/X.env.scope.names.lookup x=_
 rcases this with z | z
 ·exact .inl (by simpa using z)
 ·exact .inr (by simpa using z)
end Tr
namespace Tr
open PySem PySem.Spec PyProof.Rows L2 PySem.W
def fragH (h:Heap):Frag:=(List.range h.objs.size).filterMap fun a=>(h.get? a).map fun o=>(a,o)
theorem fragH_in (h:Heap):(fragH h).In h:=by
 have key:∀ (l:List Nat) (a:Addr) (o:Obj),(l.filterMap fun a=>(h.get? a).map fun o=>(a,o)).lookup a=some o->h.get? a=some o:=by
  intro l
  induction l with
  | nil=>intro a o e;cases e
  | cons b r ih=>
   intro a o e
   cases hb:h.get? b with
   | none=>rw [List.filterMap_cons_none (by rw [hb];rfl)]at e;exact ih a o e
   | some ob=>
    rw [List.filterMap_cons_some (b:=(b,ob)) (by rw [hb];rfl),List.lookup_cons]at e
    cases q:a == b with
    | true=>rw [q]at e;cases e;rw [eq_of_beq q];exact hb
    | false=>rw [q]at e;exact ih a o e
 exact fun a o e=>key _ a o e
def obF (K:Frag)(n:Str):Option (Str×Str×Arguments×FuncBody×Scope×Addr×List (Str×Addr)×Value×Addr×Bool×Bool):=match nsIn K mainGlobals n with
 | some (some (.ref f))=>match K.lookup f with
  | some ⟨_,_,.func d,_⟩=>some (d.name,d.qualname,d.params,d.body,d.scope,d.globals,d.closure,d.defaults,d.builtins,codeIn K d.code n,keepIn K (.ref f))
  | _=>none
 | _=>none
def exF (n:Str)(st:Stmt):Option (Str×Str×Arguments×FuncBody×Scope×Addr×List (Str×Addr)×Value×Addr×Bool×Bool):=
 some (n,n,gH st,.stmts (cA st),aj st,mainGlobals,[],.none,builtinsNs,true,true)
theorem fn_at {K:Frag}{n:Str}{st:Stmt}(e:obF K n=exF n st):∃ f fd,nsIn K mainGlobals n=some (some (.ref f))/\L2.Fun K n n st f fd:=by
 unfold obF at e
 split at e
 ·rename_i f hf
  split at e
  ·rename_i oc od d sl hl
   cases d
   unfold exF at e
   simp only [Option.some.injEq,Prod.mk.injEq]at e
   obtain⟨h1,h2,h3,h4,h5,h6,h7,h8,h9,h10,h11⟩:=e
   subst h1 h2 h3 h4 h5 h6 h7 h8 h9
   exact⟨f,_,hf,fun_mk hl h10 h11⟩
  ·cases e
 ·cases e
def obZ (K:Frag)(N:Addr)(n:Str):Bool:=match nsIn K N n with | some none=>true | _=>false
theorem obZ_of {K:Frag}{N:Addr}{n:Str}(e:obZ K N n=true):nsIn K N n=some none:=by
 unfold obZ at e
 split at e
 ·assumption
 ·cases e
def obC (K:Frag)(n:Str):Option Int:=match nsIn K mainGlobals n with | some (some (.int i _))=>some i | _=>none
theorem obC_of {K:Frag}{n:Str}{i:Int}(e:obC K n=some i):∃ t,nsIn K mainGlobals n=some (some (.int i t)):=by
 unfold obC at e
 split at e
 ·rename_i i' t h;cases e;exact⟨t,h⟩
 ·cases e
def tailV:List Value->Bool
 | [.type a,.type b,.type c,.type d] =>a == "ValueError" &&b == "Exception" &&c == "BaseException" &&d == "object"
 | _=>false
theorem tailV_of:∀ {l:List Value},tailV l=true->l=bmV:=by
 intro l e
 unfold tailV at e
 split at e
 ·simp only [Bool.and_eq_true,beq_iff_eq]at e
  obtain⟨⟨⟨h1,h2⟩,h3⟩,h4⟩:=e
  subst h1 h2 h3 h4;rfl
 ·cases e
def under (D:Option Addr)(m:List Value):Bool:=match D with
 | none=>tailV m
 | some D=>match m with
  | .ref E::m=>E == D&&tailV m
  | _=>false
def obX (K:Frag)(D:Option Addr)(n:Str):Option Addr:=match nsIn K mainGlobals n with
 | some (some (.ref C))=>match K.lookup C with
  | some ⟨.type t,_,.cls c,⟨[_,_,_,_,some (.builtin b),_]⟩⟩=>match c.mro,K.lookup c.ns with
   | .ref E::m,some ⟨_,_,.dict es _,_⟩=>
    if (t == "type" &&b == "ValueError.__new__" && !c.hasDel&&(es.toList.all fun e=>strKey e.key)&&calmNames.all (obZ K c.ns)&&E == C&&under D m)=true then some C else none
   | _,_=>none
  | _=>none
 | _=>none
theorem ge {K:Frag}{D:Option Addr}{n:Str}{C:Addr}(e:obX K D n=some C):nsIn K mainGlobals n=some (some (.ref C)) ∧
  ∃nm q N bs bm hd sn su ab co dd k0 k1 k2 k3 k5,under D bm=true/\K.lookup C=some (excClassObj nm q C N bs bm hd sn su ab co dd k0 k1 k2 k3 k5 "ValueError.__new__")/\∀ h:Heap,K.In h->∃ mN,h.Ns N mN/\∀ n∈calmNames,mN n=none:=by
 unfold obX at e
 split at e
 ·rename_i C' hC
  split at e
  ·rename_i t dd c k0 k1 k2 k3 b k5 hl
   split at e
   ·rename_i E m ob oe es ep oz hm hN
    split at e
    ·rename_i hq
     cases e
     simp only [Bool.and_eq_true,beq_iff_eq,Bool.not_eq_true']at hq
     obtain⟨⟨⟨⟨⟨⟨h1,h2⟩,h3⟩,h4⟩,h5⟩,h6⟩,h7⟩:=hq
     have z:=List.all_eq_true.mp h5
     refine⟨hC,c.name,c.qualname,c.ns,c.bases,m,c.hasDict,c.slotNames,c.subclasses,c.abstract,c.collection,dd,k0,k1,k2,k3,k5,h7,?_,ns_of hN h4 (obZ_of (z _ (.head _))) (obZ_of (z _ (.tail _ (.head _)))) (obZ_of (z _ (.tail _ (.tail _ (.head _))))) (obZ_of (z _ (.tail _ (.tail _ (.tail _ (.head _))))))⟩
     rw [hl]
     cases c
     simp only at hm h3
     subst h1 h2 hm h3 h6
     rfl
    ·cases e
   ·cases e
  ·cases e
 ·cases e
theorem ox0 {K:Frag}{C:Addr}{n:Str}(e:obX K none n=some C):OX K C bmV:=by
 obtain⟨_,_,_,_,_,_,_,_,_,_,_,_,_,_,_,_,_,hu,hl,hn⟩:=ge e
 cases tailV_of hu
 exact ox_base hl hn
theorem ox1 {K:Frag}{C D:Addr}{n m:Str}(e:obX K (some D) n=some C)(d:obX K none m=some D):OX K C (.ref D::bmV):=by
 obtain⟨_,_,_,_,_,bm,_,_,_,_,_,_,_,_,_,_,_,hu,hl,hn⟩:=ge e
 obtain⟨_,_,_,_,_,_,_,_,_,_,_,_,_,_,_,_,_,hu',hl',hn'⟩:=ge d
 cases tailV_of hu'
 unfold under at hu
 simp only at hu
 split at hu
 ·rw [Bool.and_eq_true]at hu
  cases eq_of_beq hu.1
  cases tailV_of hu.2
  exact ox_under hl hn hl' hn'
 ·cases hu
def allS {α:Type}:List (Option α)->Option (List α)
 | [] =>some []
 | none::_=>none
 | some a::r=>match allS r with | some l=>some (a::l) | none=>none
theorem fy {α:Type}{o:Option α}{r:List (Option α)}{l:List α}(e:allS (o::r)=some l):∃ a l',o=some a/\l=a::l'/\allS r=some l':=by
 cases o with
 | none=>cases e
 | some a=>
  unfold allS at e
  split at e
  ·rename_i l' h;cases e;exact⟨a,l',rfl,rfl,h⟩
  ·cases e
theorem allS_nil {α:Type}{l:List α}(e:allS ([]:List (Option α))=some l):l= []:=by cases e;rfl
def nodupB:List Addr->Bool
 | [] =>true
 | a::r=>(r.all fun b=> !(a == b))&&nodupB r
theorem nodupB_of:∀ {l:List Addr},nodupB l=true->l.Nodup
 | [],_=> .nil
 | a::r,h=>by
  unfold nodupB at h
  rw [Bool.and_eq_true]at h
  refine List.nodup_cons.mpr ⟨fun hm=> ?_,nodupB_of h.2⟩
  have:=List.all_eq_true.mp h.1 a hm
  simp at this
def okX (K:Frag):List Str->Bool
 | [] =>true
 | m::es=>match obX K none m with
  | some D=>match allS (es.map (obX K (some D)))with | some l=>nodupB (l++ [D]) | none=>false
  | none=>false
theorem okX_of {K:Frag}{m:Str}{es:List Str}(e:okX K (m::es)=true):∃ D l,obX K none m=some D/\allS (es.map (obX K (some D)))=some l/\(l++ [D]).Nodup:=by
 rw [okX]at e
 split at e
 ·rename_i D hD
  split at e
  ·rename_i l hl;exact⟨D,l,hD,hl,nodupB_of e⟩
  ·cases e
 ·cases e
structure Asks where
 tab:List (Str×Nat)
 zs:List Str
 cs:List (Str×Int)
 es:List Str
def obsK (S:Asks)(K:Frag):=(S.tab.map (fun p=>obF K p.1),S.zs.all (obZ K mainGlobals),S.cs.map (fun c=>obC K c.1),okX K S.es)
def valK (S:Asks)(top:Nat->Stmt):=(S.tab.map (fun p=>exF p.1 (top p.2)),true,S.cs.map (fun c=>some c.2),true)
def hookK (S:Asks)(top:Nat->Stmt):Hook:=
 ⟨_,fun s=>obsK S (fragH s.heap),fun _=>valK S top,fun _ h=> ∃K:Frag,K.In h/\obsK S K=valK S top,fun _ s e=>⟨_,fragH_in s.heap,e⟩,fun _ _ _ ⟨K,a,b⟩ k=>⟨K,a.keeps k,b⟩⟩
section
variable {S:Asks}{top:Nat->Stmt}{K:Frag}{h:Heap}{mg:Str->Option Value}
theorem map_at {α β:Type}{f g:α->β}:∀ {l:List α} (j:Nat) {a:α},l.map f=l.map g->l[j]? =some a->f a=g a
 | [],_,_,_,q=>by cases q
 | b::l,0,a,e,q=>by cases q;exact(List.cons.inj e).1
 | b::l,j+1,a,e,q=>map_at (l:=l) j (List.cons.inj e).2 q
theorem cr (j:Nat){n:Str}{i:Nat}{ps:List Str}(X:K.In h)(G:h.Ns mainGlobals mg)(e:obsK S K=valK S top)(q:S.tab[j]? =some (n,i))
  (hb:∀ (kV doc pm:Value) (an:Option Addr) (cdv ct:Value) (us:List Value),us.length=ps.length->bindArgs (fnOf n n (gH (top i)) (cA (top i)) (aj (top i)) .none kV doc pm an cdv ct) ⟨us,[]⟩=pure (ps.zip us)) :
  ∃f fd,Fn K mg n (top i) ps f fd:=by
 obtain⟨f,fd,h1,h2⟩:=fn_at (map_at j (congrArg (·.1) e) q)
 exact⟨f,fd,h2,h2.binds hb,mg_of X G h1⟩
theorem k_law (j:Nat){n:Str}{i:Nat}{x:Str}{fa:Addr}(X:K.In h)(G:h.Ns mainGlobals mg)(e:obsK S K=valK S top)(q:S.tab[j]? =some (n,i))(hfa:mg n=some (.ref fa))
  (hb:∀ (kV doc pm:Value) (an:Option Addr) (cdv ct u:Value),bindArgs (fnOf n n (gH (top i)) (cA (top i)) (aj (top i)) .none kV doc pm an cdv ct) ⟨[u],[]⟩=pure [(x,u)]) :
  ∃fd,Fn K mg n (top i) [x] fa fd/\∀ (s:Shared) (u:Value),BindsTo s fd ⟨[u],[]⟩ [(x,u)]:=by
 obtain⟨f,fd,h1,h2⟩:=fn_at (map_at j (congrArg (·.1) e) q)
 have z:=hfa.symm.trans (mg_of X G h1)
 cases z
 have hh:=h2
 obtain⟨oc,od,kV,doc,pm,an,cdv,ct,osl,rfl,lk,hcd⟩:=hh.ex
 exact⟨_,⟨h2,.all fun us hl=>match us,hl with | [u],_=>hb kV doc pm an cdv ct u,mg_of X G h1⟩,fun s u=> .of_eq (hb kV doc pm an cdv ct u)⟩
theorem eQ (j:Nat){n:Str}(X:K.In h)(G:h.Ns mainGlobals mg)(e:obsK S K=valK S top)(q:S.zs[j]? =some n):mg n=none:=
 mg_none_of X G (obZ_of (List.all_eq_true.mp (congrArg (·.2.1) e:S.zs.all (obZ K mainGlobals)=true) n (List.mem_of_getElem? q)))
theorem k_int (j:Nat){n:Str}{i:Int}(X:K.In h)(G:h.Ns mainGlobals mg)(e:obsK S K=valK S top)(q:S.cs[j]? =some (n,i)):∃ t,mg n=some (.int i t):=by
 obtain⟨t,ht⟩:=obC_of (map_at (f:=fun c=>obC K c.1) (g:=fun c=>some c.2) j (congrArg (·.2.2.1) e) q)
 exact⟨t,mg_of X G ht⟩
theorem k_exc (e:obsK S K=valK S top):okX K S.es=true:=congrArg (·.2.2.2) e
end
theorem left_of {p q:Program}{loose:List Str}{Xt:Shared->Bool}{α:Type}{Yf:Shared->α}{Ya:World->α}{N:Nat}{g0:Bool}
  (e:opening p=plainProg p.main.scope.names) (hN:Nat.ble 600 N=true) (f:∀ s,fenceModules? p s=some s)
  (h:∀ (w:World) (os:OsState),(topFrom treeTable p w N ⟨boot_heap w.params,⟨[]⟩,boot_drawn,boot_toks,os⟩).map (fun s=>(openSeen q loose (importedModules p.main.body) Xt g0 s,Yf s))=some (openGood q loose,Ya w)) :
  LeftO p q loose Xt Yf Ya N g0:=fun w=>by
 obtain⟨⟨h0,gs,d,k,os⟩,e1,e2⟩:=Option.map_eq_some_iff.mp (boot_open e hN f w)
 simp only [Prod.mk.injEq]at e2
 obtain⟨rfl,rfl,rfl,rfl⟩:=e2
 unfold openEnds
 rw [e1]
 exact h w os
theorem walk_k {l:OpenLaw}{n k:Nat}{q:Program}{loose:List Str}{XP:(Str->Option Value)->Heap->Prop}{d:DefRec}{S:Asks}{top:Nat->Stmt}{CX:CXT}{sp:Frag->Sp}{x:Str}
  (hn:l.most=some n) (hn2:n<=sizeLine) (hdf:d.params.defaults= []) (hr:Room k callerA)
  (F:∀ (w:World) (K:Frag) (mg:Str->Option Value) (fa:Addr) (h:Heap),K.In h->obsK S K=valK S top->h.Ns mainGlobals mg->mg d.name=some (.ref fa) →
   ∃fd:FuncData,(∀(s:Shared) (u:Value),BindsTo s fd ⟨[u],[]⟩ [(x,u)])/\∀ base:Heap,K.In base->base.Ns mainGlobals mg->FnOk l.prog w K mg base CX k fa fd [x] (sp K))
  (hsp:∀ (K:Frag) (H:Hp) (a:Addr) (ns:List Int),ns.length<=n->Only H->SqL K H a (ns.map V.int)->sp K [.ref a] H (fun v _=>v= .bl true) fun _ _ _=>False)
  (hCX:∀ (H:Hp) (s:Shared) (e:Value) (s':Shared),CX [] H s (fun _ _ _=>False) e s'->False) :
  WalkO q loose XP (hookK S top).says l.row.toRowW d [] (fun f vs=>PySem.call f vs):=by
 refine Att.attach_call hn hdf fun w s₀ s₁ mg mb fa o pm cd doc a vs ns G Y ho hd hcd hmg hobj hints hlen hg=> ?_
 obtain⟨K,KX,e⟩:=Y
 obtain⟨fd,hb,hF⟩:=F w K mg fa _ KX e G.T.g hmg
 exact law_call KX G.T.g G.T.b G.T.builtins G.T.nolimit hg hobj hints (Nat.le_trans hlen hn2) hr hF hb (fun H hO hS=>hsp K H a ns hlen hO hS) fun H e s'=>hCX H s₁ e s'
structure Cl (P:Program)(w:World)(K:Frag)(mg:Str->Option Value)(base:Heap)(k:Nat)(x:Str)(n:Nat)(m:List T->Rs T):Prop where
 ex:∃ f fd ps,mg x=some (.ref f)/\keepIn K (.ref f)=true/\Binds K fd ps []/\ps.length=n/\FnB P w K mg base k f fd ps n m
abbrev gn (K:Frag)(mg:Str->Option Value)(x:Str)(st:Stmt)(ps:List Str):Prop:=∃ f fd,Fn K mg x st ps f fd
section
variable {P:Program}{w:World}{K:Frag}{mg:Str->Option Value}{base:Heap}{x:Str}{st:Stmt}{N ps:List Str}{k n:Nat}{F:En->Rs Fl}
theorem bq (H:gn K mg x st ps)(S:aB N ps (aj st))(hn:ps.length=n)
  (hbody:∀ (f:Addr) (cdv:Value) (A:Around) (outer:List Env) (s:Shared) (H:Hp) (E:XK),Room k (A.deeper (envOfC x (aj st) s.heap.objs.size f cdv)) →
   ∀xe,QSs ((cxOf CX0 P w K mg base N x (aj st) f cdv A outer s H E).wish xe) (cA st) F):Cl P w K mg base (k+1) x n (val n N.length F):=by
 obtain⟨f,fd,h⟩:=H
 exact⟨f,fd,ps,h.mg,h.fn.kp,h.bd,hn,zfnb_ok h.fn S hn (hbody f)⟩
end
section
variable {X:Cx}{e:Expr}{es:List Expr}{fs:En->Rs (List T)}{pos p:Pos}{x:Str}{n k k':Nat}{g:List T->Rs T}
theorem aV (c:Cl X.prog X.w X.K X.mg X.base k x n g)(hr:Room k' X.A)(ha:QA X (e::es) fs)(hk:k<=k':=by decide)(hl:∀ (ρ:En) (ts:List T),fs ρ= .ok ts->ts.length=n:=by repeat first | exact aLen0 | refine aLenS ?_)
  (hn:cj (e::es)=true:=by rfl) (hg:Gl X x:=by rfl) (h2:(x == Str.ofString "__debug__")=false:=by decide):QE X (.Call (.Name x p) (e::es) [] pos) (cl g fs):=by
 obtain⟨f,fd,ps,h1,h3,h4,h5,h6⟩:=c.ex
 exact zq_c h6 (hr.mono hk) h1 h3 h4 hl ha h5 hn hg h2
theorem zq_k {i:Int}(h:∃ t,X.mg x=some (.int i t))(hg:Gl X x:=by rfl)(hd:(x == Str.ofString "__debug__")=false:=by decide):QE X (.Name x pos) (cn (.int i)):=by
 obtain⟨t,h⟩:=h
 exact zq_gint h ⟨_,rfl⟩ hg hd
end
end Tr
namespace Tr
open PySem PySem.Spec PyProof.Rows L2
theorem PairsAt.snoc {H:Hp}{b kb:Addr}{p:List Key×V}(h1:H b=some (.tup [.ref kb,p.2]))(h2:H kb=some (.tup (p.1.map kV))):∀ {xs:List V} {ps:List (List Key×V)},PairsAt H xs ps->PairsAt H (xs++ [.ref b]) (ps++ [p])
 | [],_,h=>by
  unfold PairsAt at h
  subst h
  exact⟨b,kb,p,[],rfl,rfl,h1,h2,rfl⟩
 | x::xs,_,⟨b',kb',p',r,e1,e2,e3,e4,e5⟩=>by
  subst e1
  exact⟨b',kb',p',r++ [p],rfl,e2,e3,e4,e5.snoc h1 h2⟩
theorem PairsAt.move {H H':Hp}{D:Addr}{zs:List V}(hD:H D=some (.lst zs))(s:SameO (fun a=>a=D) H H'):∀ {xs:List V} {ps:List (List Key×V)},PairsAt H xs ps->PairsAt H' xs ps
 | [],_,h=>h
 | x::xs,_,⟨b,kb,p,r,e1,e2,e3,e4,e5⟩=>⟨b,kb,p,r,e1,e2,s _ _ e3 (ne_of e3 hD (fun z=>nomatch z)),s _ _ e4 (ne_of e4 hD (fun z=>nomatch z)),e5.move hD s⟩
theorem PairsAt.len {H:Hp}:∀ {xs:List V} {ps:List (List Key×V)},PairsAt H xs ps->xs.length=ps.length
 | [],_,h=>by unfold PairsAt at h;subst h;rfl
 | x::xs,_,⟨b,kb,p,r,e1,e2,e3,e4,e5⟩=>by subst e1;rw [List.length_cons,List.length_cons,e5.len]
section
variable {X:Cx}
theorem lc_pairs {src:List (Option Nat)}{wi:TI}{te:TE}{σ:L2.St}{H:Hp}{Q:VK}{ρ:En}{O:Ow}{l:List T}{kk:List (List Key)}(E:EnvO X.K O H ρ σ)(hwi:∀ R,(∀H1,Same H H1->∀ J,ItT X.K O H1 l J->R J H1)->wi σ H R)(hz:l.length<=1000)(hk:l.map aR=kk.map some)(hs:0<src.length)
  (Acc:Hp->Addr->List V->Prop) (a0:∀ H1 D,Same H H1->Nw X.K H1 D->Acc (upd H1 D (.lst [])) D [])
  (am:∀ H1 H2 D vs ys,Acc H1 D vs->H1 D=some (.lst ys)->SameO (fun a=>a=D) H1 H2->Acc H2 D vs)
  (hte:∀ t∈l,∀σ' H' O' D vs ys (Q':VK),EnvM X.K O' noM H' ((bA src ρ).set 0 (.va t)) σ'->Acc H' D vs->H' D=some (.lst ys)->(∀v H'',Same H' H''->Acc H'' D (vs++ [v])->Q' v H'')->te σ' H' Q')
  (hq:∀ H1 D ys ps H',Same H H1->Nw X.K H1 D->Same H1 H'->H' D=some (.lst ys)->PairsAt H' ys ps->ps.map (·.1)=kk->Acc H' D (ps.map (·.2))->Q (.ref D) H') :
  tLc X.K wi src (tPG X (gN 0)) tTrue (tTup (fV (tVar 0) (fV te tNil))) σ H Q:=by
 refine hwi _ fun H1 s1 J hJ D hD hK=> ?_
 have nD:Nw X.K H1 D:=⟨hD,hK⟩
 have E1:=E.same s1
 have lk:l.length=kk.length:=by have:=congrArg List.length hk;rwa [List.length_map,List.length_map]at this
 have hlen:0<(bA src ρ).length:=by unfold bA;rw [List.length_map];exact hs
 let O':Ow:=fun a=>O a\/a=D
 have subO:∀ a,O' a->O a\/Nw X.K H1 a:=fun a z=>z.elim .inl fun w=> .inr (w▸nD)
 refine⟨fun i m σ' ys H'=>m=l.length - i/\i<=l.length/\ys.length=i/\H' D=some (.lst ys)/\SameO (fun a=>a=D) (upd H1 D (.lst [])) H' ∧
  ∃s0 ps,EnvM X.K O' noM H' ((bA src ρ).set 0 s0) σ'/\PairsAt H' ys ps/\ps.map (·.1)=kk.take i/\Acc H' D (ps.map (·.2)),⟨l.length,?_⟩,?_⟩
 ·have sN:Same H1 (upd H1 D (.lst [])):=aS hD _
  refine⟨by omega,Nat.zero_le _,rfl,aG,fun b o e _=>e,(bA src ρ)[0],[],?_,rfl,rfl,a0 H1 D s1 nD⟩
  rw [List.set_getElem_self]
  exact(lcEnv_ok E1 src).move (P:=fun a=>a=D) (fun a z=> .inr (z▸nD)) subO (fun b o e _=>sN b o e) fun a z=>by
   rcases z with z | z
   ·exact(E1.mtb a z).same sN
   ·rw [z];exact .inl ⟨_,aG⟩
 ·rintro i m σ' ys H' ⟨rfl,hi',hyl,hDl,hsm,s0,ps,E',hp,hkk,hacc⟩
  refine⟨hDl,?_⟩
  have sm1:SameO (fun a=>a=D) H1 H':=fun b o e nb=>hsm b o (by rw [aA nb];exact e) nb
  have it:=hJ (fun a=>a=D) O' (fun a z=> .inr (z▸nD)) subO i H' sm1 (fun a z=>(E'.trk a z).some)
  by_cases hlt:i<l.length
  ·refine .inr ?_
   obtain⟨go,yl⟩:=it.2 l[i] (by simp)
   refine⟨go,by rw [hyl,sizeLine_eq];omega,fun xx Hc y=> ?_⟩
   obtain⟨sc,rx⟩:=yl xx Hc y
   have Ec:=E'.same sc
   have eg:gN 0 l[i] ((bA src ρ).set 0 s0)= .ok ((bA src ρ).set 0 (.va l[i])):=by unfold gN;rw [if_pos (by rw [List.length_set];exact hlen),List.set_set]
   refine⟨(bA src ρ).set 0 s0,O',noM,l[i],Ec,rx,?_⟩
   rw [eg]
   intro σ1 Eg
   unfold tTrue
   dsimp only
   rw [if_pos rfl]
   obtain⟨kv,ekv,rkv⟩:=Eg.val 0 l[i] (by rw [List.getElem?_set_self hlen])
   refine⟨kv,ekv,?_⟩
   have aC:Acc Hc D (ps.map (·.2)):=am H' Hc D _ ys hacc hDl fun b o e _=>sc b o e
   have DC:Hc D=some (.lst ys):=sc _ _ hDl
   refine hte l[i] (List.getElem_mem hlt) σ1 Hc O' D _ ys _ Eg aC DC fun v H4 s4 acc4=>⟨by show 2<=sizeLine;rw [sizeLine_eq];omega,fun p hpn=> ?_⟩
   have D4:H4 D=some (.lst ys):=s4 _ _ DC
   have pD:p≠D:=fun z=>by rw [z,D4]at hpn;cases hpn
   have E4:=Eg.same s4
   have ki:kk[i]'(by omega)=kk[i]'(by omega):=rfl
   have hki:aR l[i] =some (kk[i]'(by omega)):=by
    have:=congrArg (fun z=>z[i]?) hk
    simp only [List.getElem?_map,List.getElem?_eq_getElem hlt,List.getElem?_eq_getElem (show i<kk.length by omega),Option.map_some]at this
    exact Option.some.inj this
   obtain⟨kb,rfl,hkb⟩:=gG hki (rkv.same s4)
   have s46:SameO (fun a=>a=D) H4 (upd (upd H4 p (.tup [.ref kb,v])) D (.lst (ys++ [.ref p]))):=fun b o e nb=>by
    rw [aA nb,aA (fun z=>by rw [z,hpn]at e;cases e)];exact e
   refine⟨by rw [aA (Ne.symm pD)];exact D4,l.length - (i+1),by omega,rfl,hlt,?_,aG,fun b o e nb=>s46 b o (s4 _ _ (sc _ _ (hsm b o e nb))) nb,.va l[i],ps++ [(kk[i]'(by omega),v)],?_,?_,?_,?_⟩
   ·rw [List.length_append,hyl];rfl
   ·exact E4.move (fun a z=> .inl (.inr z)) (fun a z=> .inl z) s46 fun aa z=>by
     by_cases hz:aa=D
     ·rw [hz];exact .inl ⟨_,aG⟩
     ·exact(E4.trk aa z).elim (fun⟨vs,e⟩=> .inl ⟨vs,s46 _ _ e hz⟩) fun⟨vs,e⟩=> .inr ⟨vs,s46 _ _ e hz⟩
   ·refine((hp.same (sc.trans s4)).move D4 s46).snoc (kb:=kb) (p:=(kk[i]'(by omega),v)) ?_ ?_
    ·rw [aA pD,aG]
    ·exact s46 _ _ hkb (ne_of hkb D4 (fun z=>nomatch z))
   ·rw [List.map_append,hkk]
    show kk.take i++ [kk[i]'(by omega)] =kk.take (i+1)
    rw [List.take_append_getElem]
   ·rw [List.map_append]
    exact am H4 _ D _ ys acc4 D4 s46
  ·refine .inl ⟨it.1 (by omega),?_⟩
   have sF:Same H1 H':=fun b o e=>sm1 b o e fun z=>by rw [z,hD]at e;cases e
   exact hq H1 D ys ps H' s1 nD sF hDl hp (by rw [hkk,List.take_of_length_le (by omega)]) hacc
def tDictT (K:PySem.W.Frag)(t:TE):TE:=fun σ H Q=>t σ H fun v H'=> ∃a xs ps,v= .ref a/\H' a=some (.lst xs)/\xs.length<=1000/\PairsAt H' xs ps/\∀ q,Nw K H' q->Q (.ref q) (upd H' q (.dT (dW [] ps)))
theorem pe_dictT {e:Expr}{t:TE}{p pos:Pos}(hu:X.A.units+8<cLine)(hc:X.calm=true)(hm:X.mg "dict" =none)(ha:PE X e t)(hg:Gl X "dict")(hs:bo e=true):PE X (.Call (.Name "dict" p) [e] [] pos) (tDictT X.K t):=by
 have h1:starEach [e] X.env=(false,eval e X.env)::starEach [] X.env:=bf hs
 intro pins s σ H Q I hq
 refine wpAny_Call_Name_kw (fN I hg hm (show bootBuiltins "dict" =some (.type "dict")by decide+kernel) ?_ (by decide) (by decide))
 refine PyProof.Rows.callWith_type1 (bK (a6 (te:=t) ha db h1 pos pins s σ H (fun zs H'=>match zs with | [v] => ∃a xs ps,v= .ref a/\H' a=some (.lst xs)/\xs.length<=1000/\PairsAt H' xs ps/\∀ q,Nw X.K H' q->Q (.ref q) (upd H' q (.dT (dW [] ps))) | _=>False) I ?_) fun us s1 hh=> ?_) h1 rfl
 ·exact hq
 ·obtain⟨vs,H1,I1,r1,hv⟩:=hh
  match vs,hv,r1 with
  | [v],hv,r1=>
  obtain⟨a,xs,ps,ev,e1,e2,e3,e4⟩:=hv
  subst ev
  obtain⟨u,rfl,ru⟩:=r1.one
  obtain rfl:u=Value.ref a:=ru
  exact d_ofList (I1.ok.hd hc) hu I1 e1 e2 e3 fun q s' nw I'=>⟨.ref q,_,I',rfl,e4 q nw⟩
end
theorem putsK_new:∀ (ps kvs:List (List Key×V)),((kvs++ps).map (·.1)).Nodup->dW kvs ps=kvs++ps
 | [],kvs,_=>by rw [dW,List.append_nil]
 | p::ps,kvs,h=>by
  have e:cP kvs p.1 p.2=kvs++ [p]:=by
   unfold cP
   rw [if_neg]
   intro z
   obtain⟨q,hq,e⟩:=List.any_eq_true.mp z
   have e:=of_decide_eq_true e
   rw [List.map_append,List.nodup_append]at h
   exact h.2.2 q.1 (List.mem_map.mpr ⟨q,hq,rfl⟩) p.1 (by simp) e
  rw [dW,e,putsK_new ps (kvs++ [p]) (by rw [List.append_assoc];exact h),List.append_assoc]
  rfl
def fK (kk:List (List Key)):List (List Key×V):=kk.map fun k=>(k,V.non)
theorem row_eq {kk:List (List Key)}:∀ {ps:List (List Key×V)},ps.map (·.1)=kk->(∀v∈ps.map (·.2),v=V.non)->ps=fK kk:=by
 intro ps h1 h2
 subst h1
 unfold fK
 rw [List.map_map]
 conv=>lhs;rw [<-List.map_id ps]
 exact List.map_congr_left fun p hp=>Prod.ext rfl (h2 p.2 (List.mem_map.mpr ⟨p,hp,rfl⟩))
section
variable {X:Cx}
def tPI0 (K:PySem.W.Frag)(f:En->Rs (List T)):TI:=fun σ H R=> ∃ρ O,EnvO K O H ρ σ/\match f ρ with
 | .ok ts=> ∀H',Same H H'->∀ J,ItT K O H' ts J->R J H'
 | _=>False
theorem tPI0.up {f:En->Rs (List T)}{σ:L2.St}{H:Hp}{R:It->Hp->Prop}(h:tPI0 X.K f σ H R):tPI X f σ H R:=by
 obtain⟨ρ,O,E,h⟩:=h
 refine⟨ρ,O,E,?_⟩
 cases q:f ρ with
 | ok t=>rw [q]at h;exact h
 | err c=>rw [q]at h;exact h.elim
 | bad=>rw [q]at h;exact h.elim
def tRow (X:Cx)(src:List (Option Nat)):TE:=tDictT X.K (tLc X.K (tPI0 X.K (iS (vr 1))) src (tPG X (gN 0)) tTrue (tTup (fV (tVar 0) (fV (tC .non) tNil))))
theorem pe_row {eb tb ib:Expr}{p q1 pc lp pos:Pos}{jj:Nat}{sc:Scope}{N':List Str}{src:List (Option Nat)}{x1}(hu:X.A.units+8<cLine)(hc:X.calm=true)(hm:X.mg "dict" =none)(hg:Gl X "dict")(S:LcScope X sc N' src)(hi:PIt X tb ib (iS (vr 1)))
  (blk:∀ cl C s₀ H₀ fp,PGt (bL X sc cl N' C s₀ H₀ fp) tb (gN 0)/\PE (bL X sc cl N' C s₀ H₀ fp) eb (tVar 0)/\bo eb=true) (hs:∀ x,foldedSetIterable ib X.env x=pure x) :
  PE X (.Call (.Name "dict" p) [.ListComp (.Tuple [eb,.Constant .none jj pc] x1 q1) [⟨tb,ib,[],0⟩] sc lp] [] pos) (tRow X src):=
 PE.imp (pe_dictT hu hc hm (pe_lc hc S hi (fun cl C s₀ H₀ fp=>⟨(blk cl C s₀ H₀ fp).1,pif_nil,pe_tup (a6 (blk cl C s₀ H₀ fp).2.1 (a6 pe_non db (bf rfl)) (bf (blk cl C s₀ H₀ fp).2.2))⟩) hs) hg rfl) fun σ H Q h=>tPI0.up h
theorem row_read {src:List (Option Nat)}{σ:L2.St}{H:Hp}{Q:VK}{ρ:En}{O:Ow}{l:List T}{kk:List (List Key)}(E:EnvO X.K O H ρ σ)(hf:iS (vr 1) ρ= .ok l)(hz:l.length<=1000)(hk:l.map aR=kk.map some)(hn:kk.Nodup)(hs:0<src.length)
  (hq:∀ d H',Same H H'->Nw X.K H d->H' d=some (.dT (fK kk))->Q (.ref d) H'):tRow X src σ H Q:=by
 have lk:l.length=kk.length:=by have:=congrArg List.length hk;rwa [List.length_map,List.length_map]at this
 unfold tRow tDictT
 refine lc_pairs (X:=X) (te:=tC .non) E (fun R h=>⟨ρ,O,E,by rw [hf];exact h⟩) hz hk hs (fun _ _ vs=> ∀v∈vs,v=V.non) (fun _ _ _ _ v h=>nomatch h) (fun _ _ _ _ _ h _ _=>h) (fun t ht σ' H' O' D vs ys Q' _ acc _ k=>k _ H' (Same.refl H') fun v hv=> ?_) fun H1 D ys ps H' s1 nD s2 hD hp h1 h2=> ?_
 ·rcases List.mem_append.mp hv with z | z
  ·exact acc v z
  ·exact List.mem_singleton.mp z
 ·have e:ps=fK kk:=row_eq h1 h2
  refine⟨D,ys,ps,rfl,hD,by rw [hp.len,e];unfold fK;rw [List.length_map];omega,hp,fun q nq=> ?_⟩
  have e2:dW [] ps=fK kk:=by rw [putsK_new ps [] (by rw [List.nil_append,h1];exact hn),List.nil_append,e]
  rw [e2]
  exact hq q _ ((s1.trans s2).trans (aS nq.1 _)) (nw_same (s1.trans s2) nq) aG
theorem reps_non {K:PySem.W.Frag}{O:Ow}{H:Hp}:∀ (l:List T) (kk:List (List Key)),l.length=kk.length->Reps K O H (l.map fun _=>T.non) ((fK kk).map (·.2))
 | [],[],_=>Reps.nil_
 | _::l,_::kk,h=>Reps.cons_ Rep.non_ (reps_non l kk (by simpa using h))
 | [],_::_,h=>by simp at h
 | _::_,[],h=>by simp at h
theorem rows_non {K:PySem.W.Frag}{O:Ow}{H:Hp}{l:List T}{kk:List (List Key)}(hk:l.map aR=kk.map some):∀ {m:List T} {ds:List Addr},m.length=ds.length->(∀d∈ds,H d=some (.dT (fK kk)))->RowsR K O H (m.map fun _=>(l,l.map fun _=>T.non)) ds
 | [],[],_,_=>rfl
 | _::m,d::ds,h,hd=>⟨d,ds,fK kk,rfl,hd d List.mem_cons_self,by unfold fK;rw [List.map_map];exact hk,reps_non l kk (by have:=congrArg List.length hk;rwa [List.length_map,List.length_map]at this),rows_non hk (by simpa using h) fun e he=>hd e (List.mem_cons_of_mem _ he)⟩
 | [],_::_,h,_=>by simp at h
 | _::_,[],h,_=>by simp at h
theorem keys_kk:∀ {l:List T},keys? l=true->∃ kk:List (List Key),l.map aR=kk.map some
 | [],_=>⟨[],rfl⟩
 | t::l,h=>by
  unfold keys? at h
  rw [Bool.and_eq_true]at h
  obtain⟨kk,e⟩:=keys_kk h.2
  obtain⟨k,ek⟩:=Option.isSome_iff_exists.mp h.1
  exact⟨k::kk,by rw [List.map_cons,List.map_cons,ek,e]⟩
theorem qs_newDD (i j:Nat){x:Str}{ea r ta ia:Expr}{p q1 lp p2 p3 pos:Pos}{x1}{sc:Scope}{N':List Str}{src:List (Option Nat)}(hu:X.A.units+8<cLine)(hc:X.calm=true)(hm:X.mg "dict" =none)(hN:X.N.Nodup)
  (S:LcScope X sc N' [none,some j]) (hi:PIt X ta ia (iS (vr j))) (hsr:0<src.length)
  (blk:∀ cl C s₀ H₀ fp,PGt (bL X sc cl N' C s₀ H₀ fp) ta (gN 0)/\PE (bL X sc cl N' C s₀ H₀ fp) ea (tVar 0)/\PE (bL X sc cl N' C s₀ H₀ fp) r (tRow X src)) (h1:bo ea=true:=by rfl) (h2:bo r=true:=by rfl)
  (hs:∀ x,foldedSetIterable ia X.env x=pure x:=by intro _;rfl) (hg:Gl X "dict":=by rfl) (hix:X.N[i]? =some x:=by rfl) (hx:Loc X.env.scope x:=by first | exact Or.inl rfl | exact Or.inr rfl)
  (hsw:swapsWith (.Call (.Name "dict" p) [.ListComp (.Tuple [ea,r] x1 q1) [⟨ta,ia,[],0⟩] sc lp] [] p2) (some (.Name x p3)) pos.line X.env=pure false:=by rfl)
  (hf:X.fn x=true\/X.env.scope.names.lookup x=some .local:=by first | exact .inl rfl | exact .inr rfl | assumption) :
  PSt X (.Assign [.Name x p3] (.Call (.Name "dict" p) [.ListComp (.Tuple [ea,r] x1 q1) [⟨ta,ia,[],0⟩] sc lp] [] p2) pos) (sNewDD i j):=
 PS.imp (ps_set hN hix hx (pe_dictT hu hc hm (pe_lc (g:=tPG X (gN 0)) (tc:=tTrue) (te:=tTup (fV (tVar 0) (fV (tRow X src) tNil))) hc S hi (fun cl C s₀ H₀ fp=>⟨(blk cl C s₀ H₀ fp).1,pif_nil,pe_tup (a6 (blk cl C s₀ H₀ fp).2.1 (a6 (blk cl C s₀ H₀ fp).2.2 db (bf h2)) (bf h1))⟩) hs) hg rfl) hsw hf) fun D σ H hh_=>by
  obtain⟨ρ,B,M,E,h⟩:=hh_
  unfold sNewDD at h
  cases qj:ρ[j]? with
  | none=>rw [qj]at h;exact h.elim
  | some z=>
   rw [qj]at h
   match z,h,qj with
   | .va (.lst l),h,qj=>
    dsimp only at h
    by_cases hh:i<ρ.length/\keys? l=true/\(l.map aR).Nodup/\l.length<=1000
    ·rw [if_pos hh]at h
     obtain⟨hl,hky,hnd,hz⟩:=hh
     obtain⟨kk,hk⟩:=keys_kk hky
     have lk:l.length=kk.length:=by have:=congrArg List.length hk;rwa [List.length_map,List.length_map]at this
     have hn:kk.Nodup:=by
      rw [hk]at hnd
      exact(List.pairwise_map.mp hnd).imp fun h z=>h (by rw [z])
     have fj:iS (vr j) ρ= .ok l:=by unfold iS vr;rw [qj];rfl
     have hlc:bA [none,some j] ρ= [.em,.va (.lst l)]:=by unfold bA;simp [qj]
     unfold tAsg tDictT
     refine lc_pairs (X:=X) (te:=tRow X src) E.o (fun R h=>⟨ρ,OO B M,E.o,by rw [fj];exact h⟩) hz hk (by simp)
      (fun H' D vs=>H D=none/\Same H H'/\∃ ds:List Addr,vs=ds.map V.ref/\ds.Nodup/\∀ d∈ds,Nw X.K H d/\H' d=some (.dT (fK kk)))
      (fun H1 D s1 nD=>⟨(nw_same s1 nD).1,s1.trans (aS nD.1 _),[],rfl,List.nodup_nil,fun d h=>nomatch h⟩)
      (fun H1 H2 D vs ys ⟨c1,c2,ds,c3,c4,c5⟩ hD s=>⟨c1,(fun b o e=>s b o (c2 b o e) (fun z=>by rw [z,c1]at e;cases e)),ds,c3,c4,fun d hd=>⟨(c5 d hd).1,s _ _ (c5 d hd).2 (ne_of (c5 d hd).2 hD (fun z=>nomatch z))⟩⟩)
      (fun t ht σ' H' O' D vs ys Q' E' ⟨c1,c2,ds,c3,c4,c5⟩ hD k=>row_read (l:=l) (kk:=kk) ⟨noM,E'⟩ (by rw [hlc];rfl) hz hk hn hsr fun d H'' s' nd hd=> ?_) fun H1 D ys ps H' s1 nD s2 hD hp e1 ⟨c1,c2,ds,c3,c4,c5⟩=> ?_
     ·refine k _ H'' s' ⟨c1,c2.trans s',ds++ [d],by rw [c3,List.map_append];rfl,?_,fun e he=> ?_⟩
      ·refine List.nodup_append.mpr ⟨c4,by simp,fun u hu w hw=> ?_⟩
       rw [List.mem_singleton.mp hw]
       intro z
       have:=(c5 u hu).2
       rw [z,nd.1]at this
       cases this
      ·rcases List.mem_append.mp he with z | z
       ·exact⟨(c5 e z).1,s' _ _ (c5 e z).2⟩
       ·rw [List.mem_singleton.mp z]
        exact⟨nw_same c2 nd,hd⟩
     ·have hpl:ps.length=kk.length:=by rw [<-e1,List.length_map]
      refine⟨D,ys,ps,rfl,hD,by rw [hp.len];omega,hp,fun q nq=> ?_⟩
      have e2:dW [] ps=ps:=by rw [putsK_new ps [] (by rw [List.nil_append,e1];exact hn),List.nil_append]
      rw [e2]
      have qd:q∉ds:=fun z=>by have:=(c5 q z).2;rw [nq.1]at this;cases this
      have dl:ds.length=ps.length:=by have:=congrArg List.length c3;rw [List.length_map,List.length_map]at this;exact this.symm
      have hm':∀ b,b=q\/b∈ds->Nw X.K H b:=fun b z=>z.elim (fun w=>w▸nw_same c2 nq) fun w=>(c5 b w).1
      have sF:Same H (upd H' q (.dT ps)):=c2.trans (aS nq.1 _)
      obtain⟨E2,sub⟩:=E.new (m:=fun b=>b=q\/b∈ds) (o:=.dd l (l.map fun _=>(l,l.map fun _=> .non))) (v:=.ref q) (H':=upd H' q (.dT ps)) hl hm' sF ⟨q,ps,ds,rfl,fun b=>Iff.rfl,qd,c4,aG,by rw [hk,<-e1,List.map_map];rfl,c3,rows_non hk (by omega) fun d hd=>by rw [aA (show d≠q from fun z=>qd (z▸hd))];exact(c5 d hd).2⟩
      exact h _ _ _ (SameO.of sF) E2 sub
    ·rw [if_neg hh]at h;exact h.elim
   | .em,h,_=>exact h.elim
   | .ow _,h,_=>exact h.elim
   | .va .non,h,_=>exact h.elim
   | .va (.bl _),h,_=>exact h.elim
   | .va (.int _),h,_=>exact h.elim
   | .va (.str _),h,_=>exact h.elim
   | .va (.tup _),h,_=>exact h.elim
   | .va (.scr _),h,_=>exact h.elim
   | .va (.dct _ _),h,_=>exact h.elim
end
theorem zqs_newDD {X:Cx}(i j:Nat){x:Str}{ea r ta ia:Expr}{p q1 lp p2 p3 pos:Pos}{x1}{sc:Scope}{N':List Str}{src:List (Option Nat)}(hu:X.A.units+8<cLine)(hc:X.calm=true)(hm:X.mg "dict" =none)(hN:X.N.Nodup)
  (S:LcScope X sc N' [none,some j]) (hi:QI X ta ia (iS (vr j))) (hsr:0<src.length)
  (blk:∀ cl C s₀ H₀ fp,QG (bL X sc cl N' C s₀ H₀ fp) ta (gN 0)/\PE (bL X sc cl N' C s₀ H₀ fp) ea (tVar 0)/\PE (bL X sc cl N' C s₀ H₀ fp) r (tRow X src)) (h1:bo ea=true:=by rfl) (h2:bo r=true:=by rfl)
  (hs:∀ x,foldedSetIterable ia X.env x=pure x:=by intro _;rfl) (hg:Gl X "dict":=by rfl) (hix:X.N[i]? =some x:=by rfl) (hx:Loc X.env.scope x:=by first | exact Or.inl rfl | exact Or.inr rfl)
  (hsw:swapsWith (.Call (.Name "dict" p) [.ListComp (.Tuple [ea,r] x1 q1) [⟨ta,ia,[],0⟩] sc lp] [] p2) (some (.Name x p3)) pos.line X.env=pure false:=by rfl)
  (hf:X.fn x=true\/X.env.scope.names.lookup x=some .local:=by first | exact .inl rfl | exact .inr rfl | assumption) :
  QS X (.Assign [.Name x p3] (.Call (.Name "dict" p) [.ListComp (.Tuple [ea,r] x1 q1) [⟨ta,ia,[],0⟩] sc lp] [] p2) pos) (sNewDD i j):=
 ⟨qs_newDD i j hu hc hm hN S hi.h hsr (fun cl C s₀ H₀ fp=>⟨(blk cl C s₀ H₀ fp).1.h,(blk cl C s₀ H₀ fp).2⟩) h1 h2 hs hg hix hx hsw hf⟩
end Tr
namespace G
open PySem PySem.Spec PyProof.Rows L2 Tr
def top (i:Nat):Stmt:=PySem.Challenge.pw_farclocks_k22_barring.main.body.getD i (.Pass ⟨0,0,0,0⟩)
structure Bl (mg:Str->Option Value):Prop where
 b_ValueError:mg "ValueError" =none
 b_all:mg "all" =none
 b_bool:mg "bool" =none
 b_dict:mg "dict" =none
 b_enumerate:mg "enumerate" =none
 b_int:mg "int" =none
 b_isinstance:mg "isinstance" =none
 b_len:mg "len" =none
 b_list:mg "list" =none
 b_range:mg "range" =none
 b_sum:mg "sum" =none
 b_tuple:mg "tuple" =none
structure Cs (mg:Str->Option Value):Prop where
 MOST_CLOCKS:∃ t,mg "MOST_CLOCKS" =some (.int 4 t)
 MOST_LETTERS:∃ t,mg "MOST_LETTERS" =some (.int 8 t)
 MOST_READINGS:∃ t,mg "MOST_READINGS" =some (.int 4 t)
 LAST_READING:∃ t,mg "LAST_READING" =some (.int 99 t)
 SLOWEST:∃ t,mg "SLOWEST" =some (.int 9 t)
 LONGEST:∃ t,mg "LONGEST" =some (.int 999 t)
theorem boot_ty_bool:bootBuiltins "bool" =some (.type "bool"):=by decide+kernel
theorem boot_ty_int:bootBuiltins "int" =some (.type "int"):=by decide+kernel
theorem boot_ty_list:bootBuiltins "list" =some (.type "list"):=by decide+kernel
theorem dj:bootBuiltins "tuple" =some (.type "tuple"):=by decide+kernel
structure Xs (K:PySem.W.Frag)(mg:Str->Option Value)(C_NoRecord C_NoEvent C_NoNumber C_NoWorld C_Barred C_Nothing C_ClockError:Addr):Prop where
 m_NoRecord:mg "NoRecord" =some (.ref C_NoRecord)
 m_NoEvent:mg "NoEvent" =some (.ref C_NoEvent)
 m_NoNumber:mg "NoNumber" =some (.ref C_NoNumber)
 m_NoWorld:mg "NoWorld" =some (.ref C_NoWorld)
 m_Barred:mg "Barred" =some (.ref C_Barred)
 m_Nothing:mg "Nothing" =some (.ref C_Nothing)
 m_ClockError:mg "ClockError" =some (.ref C_ClockError)
 o_NoRecord:OX K C_NoRecord (.ref C_ClockError::bmV)
 o_NoEvent:OX K C_NoEvent (.ref C_ClockError::bmV)
 o_NoNumber:OX K C_NoNumber (.ref C_ClockError::bmV)
 o_NoWorld:OX K C_NoWorld (.ref C_ClockError::bmV)
 o_Barred:OX K C_Barred (.ref C_ClockError::bmV)
 o_Nothing:OX K C_Nothing (.ref C_ClockError::bmV)
 o_ClockError:OX K C_ClockError bmV
 d:[C_NoRecord,C_NoEvent,C_NoNumber,C_NoWorld,C_Barred,C_Nothing,C_ClockError].Nodup
abbrev bH:Stmt:=top 56
theorem sc__law_refused:aB ["_law_e","_law_flags"] ["_law_e"] (aj bH):=⟨rfl,rfl,rfl,by decide+kernel,rfl,by decide+kernel,by decide+kernel⟩
def gw (j:Nat):T:=.tup [.str "refused",.int (j:Nat)]
def hRef (c:Str):Rs T:=if c= "NoRecord" then .ok (gw 0)else if c= "NoEvent" then .ok (gw 1)else if c= "NoNumber" then .ok (gw 2)else if c= "NoWorld" then .ok (gw 3)else if c= "Barred" then .ok (gw 4)else if c= "Nothing" then .ok (gw 5)else .bad
section
variable {P:Program}{w:World}{K:PySem.W.Frag}{mg:Str->Option Value}{base:Heap}{C_NoRecord C_NoEvent C_NoNumber C_NoWorld C_Barred C_Nothing C_ClockError:Addr}
theorem Xs.ne {C D:Addr}(h:C≠D):(Value.ref C::bmV).contains (.ref D)=false:=by
 rw [List.contains_cons]
 have:(Value.ref D == Value.ref C)=false:=by rw [beq_eq_false_iff_ne];exact fun z=>h (Value.ref.inj z).symm
 rw [this];rfl
theorem ref_body {C e f:Addr}{oe:Obj}{ev:Array Value}{A:Around}{outer:List Env}{s:Shared}{H:Hp}{Q:VK}{j:Nat}(S:Xs K mg C_NoRecord C_NoEvent C_NoNumber C_NoWorld C_Barred C_Nothing C_ClockError)(OC:OX K C (.ref C_ClockError::bmV))
  (hc:oe.cls= .ref C) (hd:oe.data= .fields ev) (hi:mg "isinstance" =none) (hv:mg "ValueError" =none) (n_NoRecord:C_ClockError≠C_NoRecord) (n_NoEvent:C_ClockError≠C_NoEvent) (n_NoNumber:C_ClockError≠C_NoNumber) (n_NoWorld:C_ClockError≠C_NoWorld) (n_Barred:C_ClockError≠C_Barred) (n_Nothing:C_ClockError≠C_Nothing)
  {b0 b1 b2 b3 b4 b5:Bool} (h0:decide (C=C_NoRecord)=b0) (h1:decide (C=C_NoEvent)=b1) (h2:decide (C=C_NoNumber)=b2) (h3:decide (C=C_NoWorld)=b3) (h4:decide (C=C_Barred)=b4) (h5:decide (C=C_Nothing)=b5)
  (cnt:[b0,b1,b2,b3,b4,b5].countP id=1) (hj:[b0,b1,b2,b3,b4,b5][j]? =some true) (hno:∀ m,m<j->[b0,b1,b2,b3,b4,b5][m]? =some false)
  (q:∀ p H',Same H H'->H p=none->H' p=some (.tup [.str "refused",.int (j:Nat)])->Q (.ref p) H') (cdv:Value) :
  ∃t,PSs (cxH P w K mg base ["_law_e","_law_flags"] "_law_refused" (aj bH) f cdv A outer s H e oe) (cA bH) t/\t { nx:=fun _ _=>False,rt:=Q } (start ["_law_e","_law_flags"] [.ref e]) H:=by
 have nd:=sc__law_refused.nd
 have hp:(e,oe)∈(cxH P w K mg base ["_law_e","_law_flags"] "_law_refused" (aj bH) f cdv A outer s H e oe).pn:=List.mem_cons_self
 refine⟨_,pss_cons (ps_set (i:=1) nd rfl (Or.inl rfl) (pe_lst (a6 (pe_isx rfl (Or.inl rfl) hp hc hd OC S.o_NoRecord b0 h0 (fun _=>Xs.ne n_NoRecord) hi S.m_NoRecord) (a6 (pe_isx rfl (Or.inl rfl) hp hc hd OC S.o_NoEvent b1 h1 (fun _=>Xs.ne n_NoEvent) hi S.m_NoEvent) (a6 (pe_isx rfl (Or.inl rfl) hp hc hd OC S.o_NoNumber b2 h2 (fun _=>Xs.ne n_NoNumber) hi S.m_NoNumber) db)))))
  (pss_cons (ps_set (i:=1) nd rfl (Or.inl rfl) (pe_op op_cat (pv 1) (pe_lst (a6 (pe_isx rfl (Or.inl rfl) hp hc hd OC S.o_NoWorld b3 h3 (fun _=>Xs.ne n_NoWorld) hi S.m_NoWorld) (a6 (pe_isx rfl (Or.inl rfl) hp hc hd OC S.o_Barred b4 h4 (fun _=>Xs.ne n_Barred) hi S.m_Barred) (a6 (pe_isx rfl (Or.inl rfl) hp hc hd OC S.o_Nothing b5 h5 (fun _=>Xs.ne n_Nothing) hi S.m_Nothing) db))))))
  (pss_cons (ps_if (PW.pt (pw_or (pt_cmpR op_ne (pe_bm PySem.F.plainAttrs_list PySem.F.slot_list_count PySem.F.type_list_count mt_countT (pv 1) (a6 pe_bl db)) pe_int (nomark _)) (pw_or1 (pt_not (pt_val (pe_isV rfl (Or.inl rfl) hp hc OC hi hv)))))) (fg ps_never) pss_nil)
  (fg (ps_ret (pe_tup (a6 pe_str (a6 (pe_bm PySem.F.plainAttrs_list PySem.F.slot_list_index PySem.F.type_list_index mt_indexT (pv 1) (a6 pe_bl db)) db))))))),?_⟩
 refine⟨rfl,rfl,rfl,(by show 3<=sizeLine;decide),fun l1 n1=> ?_⟩
 refine⟨.ref l1,rfl,rfl,rfl,rfl,(by show 3<=sizeLine;decide),fun l2 n2=> ?_⟩
 have ne21:l1≠l2:=fun z=>by subst z;rw [aG]at n2;cases n2
 refine⟨l1,l2,[.bl b0,.bl b1,.bl b2],[.bl b3,.bl b4,.bl b5],rfl,rfl,by rw [aA ne21,aG],aG,(by show 3+3<=sizeLine;decide),fun l3 n3=> ?_⟩
 refine⟨.ref l3,rfl,.inl ⟨rfl,_,SqL.of aG⟩,⟨l3,[b0,b1,b2,b3,b4,b5],rfl,rfl,aG,?_⟩⟩
 have hz:(!decide (V.int (([b0,b1,b2,b3,b4,b5].countP id:Nat):Int)=V.int 1))=false:=by rw [cnt];simp
 refine⟨rfl,false,congrArg V.bl hz,iteF ⟨rfl,true,rfl,iteF ?_⟩⟩
 have hj6:j<6:=by have:=(List.getElem?_eq_some_iff.mp hj).1;simpa using this
 refine⟨.ref l3,rfl,.inl ⟨rfl,_,SqL.of aG⟩,⟨l3,[b0,b1,b2,b3,b4,b5],j,rfl,rfl,aG,hj,hno,by omega,(by show 2<=sizeLine;decide),fun p np=>q p _ ?_ ?_ aG⟩⟩
 rotate_left
 ·have m3:p≠l3:=fun z=>by subst z;rw [aG]at np;cases np
  have m2:p≠l2:=fun z=>by subst z;rw [aA m3,aG]at np;cases np
  have m1:p≠l1:=fun z=>by subst z;rw [aA m3,aA m2,aG]at np;cases np
  rw [aA m3,aA m2,aA m1]at np;exact np
 intro b o hb
 have m1:b≠l1:=fun z=>by subst z;rw [n1]at hb;cases hb
 have m2:b≠l2:=fun z=>by subst z;rw [aA m1,hb]at n2;cases n2
 have m3:b≠l3:=fun z=>by subst z;rw [aA m2,aA m1,hb]at n3;cases n3
 have m4:b≠p:=fun z=>by subst z;rw [aA m3,aA m2,aA m1,hb]at np;cases np
 rw [aA m4,aA m3,aA m2,aA m1];exact hb
end
section
variable {X:Cx}{C_NoRecord C_NoEvent C_NoNumber C_NoWorld C_Barred C_Nothing C_ClockError:Addr}
def tRC (X:Cx)(i:Nat)(e:Addr)(j:Nat):TE:=fun σ H Q=>σ[i]? =some (some (.ref e))/\H e=none/\e∉frs X.stack/\∀ p H',Same H H'->H p=none->H' p=some (.tup [.str "refused",.int (j:Nat)])->Q (.ref p) H'
theorem dX {en:Str}{p p1 pos:Pos}{i j:Nat}{C e f:Addr}{fd:FuncData}{oe:Obj}{ev:Array Value}(hN:X.N[i]? =some en)(hv:Vis X.env.scope en)
  (Fn_:Fn X.K X.mg "_law_refused" bH ["_law_e"] f fd) (S:Xs X.K X.mg C_NoRecord C_NoEvent C_NoNumber C_NoWorld C_Barred C_Nothing C_ClockError) (OC:OX X.K C (.ref C_ClockError::bmV))
  (hc:oe.cls= .ref C) (hd:oe.data= .fields ev) (hi:X.mg "isinstance" =none) (hvv:X.mg "ValueError" =none) (n_NoRecord:C_ClockError≠C_NoRecord) (n_NoEvent:C_ClockError≠C_NoEvent) (n_NoNumber:C_ClockError≠C_NoNumber) (n_NoWorld:C_ClockError≠C_NoWorld) (n_Barred:C_ClockError≠C_Barred) (n_Nothing:C_ClockError≠C_Nothing)
  {b0 b1 b2 b3 b4 b5:Bool} (h0:decide (C=C_NoRecord)=b0) (h1:decide (C=C_NoEvent)=b1) (h2:decide (C=C_NoNumber)=b2) (h3:decide (C=C_NoWorld)=b3) (h4:decide (C=C_Barred)=b4) (h5:decide (C=C_Nothing)=b5)
  (cnt:[b0,b1,b2,b3,b4,b5].countP id=1) (hj:[b0,b1,b2,b3,b4,b5][j]? =some true) (hno:∀ m,m<j->[b0,b1,b2,b3,b4,b5][m]? =some false) (hr:X.A.depth+3<recursionLimit)
  (hg:Gl (cxS X e oe) "_law_refused":=by rfl) (hde:(en == ("__debug__" : Str))=false:=by decide) (hce:(en == ("__classdict__" : Str))=false:=by decide)
  (he:starEach [.Name en p1] X.env=(false,eval (.Name en p1) X.env)::starEach [] X.env:=by rfl) (hpl:(backTo pos (starEach [] X.env)).any (·.1)=false:=by rfl) :
  PE (cxS X e oe) (.Call (.Name "_law_refused" p) [.Name en p1] [] pos) (tRC X i e j):=by
 intro pins s σ H Q I ⟨hσ,hH,hf,q⟩
 refine wpAny_Call_Name_kw (ld_glob (X:=cxS X e oe) I hg Fn_.mg ?_ (by decide))
 have hA:PA (cxS X e oe) [.Name en p1] (fV (tVar i) tNil):=a6 (gy (X:=cxS X e oe) hN hv hde hce) db he
 refine PySem.W.callWith_K (h₀:=X.base) I.ok.mod.kin Fn_.fn.kp (bK (hA pos pins s σ H (fun vs H'=>vs= [.ref e]/\H'=H) I ⟨.ref e,hσ,rfl,rfl⟩) fun us s1 ⟨vs,H1,I1,r,e1,e2⟩=>⟨I1.kIn,?_⟩) he hpl
 subst e1
 subst e2
 obtain⟨u,rfl,ru⟩:=vals1 r
 cases ru
 have hoe:s1.heap.get? e=some oe:=(I1.pin (e,oe) (List.mem_append_left _ List.mem_cons_self)).1
 have hb:=Fn_.bd s1 [.ref e] I1.kIn rfl
 refine wpAny_call (codeAny_mono (fnh_ok (Q:=Q) Fn_.fn sc__law_refused (vs:=[.ref e]) rfl hr I1.env0 hb r hoe hH hf (fun v z=>by rw [hd]at z;cases z) fun cdv=>ref_body S OC hc hd hi hvv n_NoRecord n_NoEvent n_NoNumber n_NoWorld n_Barred n_Nothing h0 h1 h2 h3 h4 h5 cnt hj hno q cdv) fun r s' hq=> ?_)
 cases r with
 | error ev=>exact hq.elim
 | ok fl=>
  cases fl with
  | ret u=>exact I1.after hq
  | next=>exact hq.elim
  | brk=>exact hq.elim
  | cont=>exact hq.elim
theorem rep_ref {K:PySem.W.Frag}{O:Ow}{H H':Hp}{p:Addr}{j:Nat}(hO:∀ p,H p=none->¬ O p)(hp:H p=none)(h:H' p=some (.tup [.str "refused",.int (j:Nat)])):Rep K O H' (gw j) (.ref p):=
 Rep.tup_iff.mpr ⟨p,_,rfl,hO p hp,h,Reps.cons_ (Rep.str_ _) (Reps.cons_ (Rep.int_ _) Reps.nil_)⟩
theorem suite_ok {en:Str}{p p1 pos rp:Pos}{i:Nat}{f:Addr}{fd:FuncData}(hN:X.N[i]? =some en)(hv:Vis X.env.scope en)
  (Fn_:Fn X.K X.mg "_law_refused" bH ["_law_e"] f fd) (S:Xs X.K X.mg C_NoRecord C_NoEvent C_NoNumber C_NoWorld C_Barred C_Nothing C_ClockError) (hi:X.mg "isinstance" =none) (hvv:X.mg "ValueError" =none) (hr:X.A.depth+3<recursionLimit)
  (hg:∀ e oe,Gl (cxS X e oe) "_law_refused":=by intro _ _;rfl) (hde:(en == ("__debug__" : Str))=false:=by decide) (hce:(en == ("__classdict__" : Str))=false:=by decide)
  (he:starEach [.Name en p1] X.env=(false,eval (.Name en p1) X.env)::starEach [] X.env:=by rfl) (hpl:(backTo pos (starEach [] X.env)).any (·.1)=false:=by rfl) :
  SuiteOk X i [.Return (some (.Call (.Name "_law_refused" p) [.Name en p1] [] pos)) rp] C_ClockError hRef:=by
 have dd:=S.d
 have ap:∀ {a b:Addr} (i j:Nat),i<j->[C_NoRecord,C_NoEvent,C_NoNumber,C_NoWorld,C_Barred,C_Nothing,C_ClockError][i]? =some a->[C_NoRecord,C_NoEvent,C_NoNumber,C_NoWorld,C_Barred,C_Nothing,C_ClockError][j]? =some b->a≠b:=fun {a b} i j hij ha hb z=>by
  have:=(List.getElem?_inj (List.getElem?_eq_some_iff.mp ha).1 dd).mp (ha.trans (z▸hb.symm))
  omega
 have hin:∀ C:Addr,(Value.ref C:: .ref C_ClockError::bmV).contains (.ref C_ClockError)=true:=fun C=>by rw [List.contains_cons,List.contains_cons,beq_self_eq_true,Bool.true_or,Bool.or_true]
 have n_NoRecord:C_ClockError≠C_NoRecord:=(Ne.symm (ap 0 6 (by decide) rfl rfl))
 have n_NoEvent:C_ClockError≠C_NoEvent:=(Ne.symm (ap 1 6 (by decide) rfl rfl))
 have n_NoNumber:C_ClockError≠C_NoNumber:=(Ne.symm (ap 2 6 (by decide) rfl rfl))
 have n_NoWorld:C_ClockError≠C_NoWorld:=(Ne.symm (ap 3 6 (by decide) rfl rfl))
 have n_Barred:C_ClockError≠C_Barred:=(Ne.symm (ap 4 6 (by decide) rfl rfl))
 have n_Nothing:C_ClockError≠C_Nothing:=(Ne.symm (ap 5 6 (by decide) rfl rfl))
 intro c C t hm ht
 unfold hRef at ht
 by_cases z0:c= "NoRecord"
 ·rw [if_pos z0]at ht
  cases ht
  rw [z0,S.m_NoRecord]at hm
  cases hm
  refine⟨_,S.o_NoRecord,hin _,fun e oe ev hc hd pins s σ H O Q I hH hf hσ hO q=> ?_⟩
  exact fg (ps_ret (dX hN hv Fn_ S S.o_NoRecord hc hd hi hvv n_NoRecord n_NoEvent n_NoNumber n_NoWorld n_Barred n_Nothing (b0:=true) (b1:=false) (b2:=false) (b3:=false) (b4:=false) (b5:=false) (by simp) (by rw [decide_eq_false (ap 0 1 (by decide) rfl rfl)]) (by rw [decide_eq_false (ap 0 2 (by decide) rfl rfl)]) (by rw [decide_eq_false (ap 0 3 (by decide) rfl rfl)]) (by rw [decide_eq_false (ap 0 4 (by decide) rfl rfl)]) (by rw [decide_eq_false (ap 0 5 (by decide) rfl rfl)]) (by decide) (j:=0) rfl (fun m hm=>by omega) hr (hg e oe) hde hce he hpl)) pins s σ H _ I ⟨hσ,hH,hf,fun p H' sm hp h=>q _ _ sm (rep_ref hO hp h)⟩
 rw [if_neg z0]at ht
 by_cases z1:c= "NoEvent"
 ·rw [if_pos z1]at ht
  cases ht
  rw [z1,S.m_NoEvent]at hm
  cases hm
  refine⟨_,S.o_NoEvent,hin _,fun e oe ev hc hd pins s σ H O Q I hH hf hσ hO q=> ?_⟩
  exact fg (ps_ret (dX hN hv Fn_ S S.o_NoEvent hc hd hi hvv n_NoRecord n_NoEvent n_NoNumber n_NoWorld n_Barred n_Nothing (b0:=false) (b1:=true) (b2:=false) (b3:=false) (b4:=false) (b5:=false) (by rw [decide_eq_false (Ne.symm (ap 0 1 (by decide) rfl rfl))]) (by simp) (by rw [decide_eq_false (ap 1 2 (by decide) rfl rfl)]) (by rw [decide_eq_false (ap 1 3 (by decide) rfl rfl)]) (by rw [decide_eq_false (ap 1 4 (by decide) rfl rfl)]) (by rw [decide_eq_false (ap 1 5 (by decide) rfl rfl)]) (by decide) (j:=1) rfl (fun m hm=>by match m,hm with | 0,_=>rfl) hr (hg e oe) hde hce he hpl)) pins s σ H _ I ⟨hσ,hH,hf,fun p H' sm hp h=>q _ _ sm (rep_ref hO hp h)⟩
 rw [if_neg z1]at ht
 by_cases z2:c= "NoNumber"
 ·rw [if_pos z2]at ht
  cases ht
  rw [z2,S.m_NoNumber]at hm
  cases hm
  refine⟨_,S.o_NoNumber,hin _,fun e oe ev hc hd pins s σ H O Q I hH hf hσ hO q=> ?_⟩
  exact fg (ps_ret (dX hN hv Fn_ S S.o_NoNumber hc hd hi hvv n_NoRecord n_NoEvent n_NoNumber n_NoWorld n_Barred n_Nothing (b0:=false) (b1:=false) (b2:=true) (b3:=false) (b4:=false) (b5:=false) (by rw [decide_eq_false (Ne.symm (ap 0 2 (by decide) rfl rfl))]) (by rw [decide_eq_false (Ne.symm (ap 1 2 (by decide) rfl rfl))]) (by simp) (by rw [decide_eq_false (ap 2 3 (by decide) rfl rfl)]) (by rw [decide_eq_false (ap 2 4 (by decide) rfl rfl)]) (by rw [decide_eq_false (ap 2 5 (by decide) rfl rfl)]) (by decide) (j:=2) rfl (fun m hm=>by match m,hm with | 0,_=>rfl | 1,_=>rfl) hr (hg e oe) hde hce he hpl)) pins s σ H _ I ⟨hσ,hH,hf,fun p H' sm hp h=>q _ _ sm (rep_ref hO hp h)⟩
 rw [if_neg z2]at ht
 by_cases z3:c= "NoWorld"
 ·rw [if_pos z3]at ht
  cases ht
  rw [z3,S.m_NoWorld]at hm
  cases hm
  refine⟨_,S.o_NoWorld,hin _,fun e oe ev hc hd pins s σ H O Q I hH hf hσ hO q=> ?_⟩
  exact fg (ps_ret (dX hN hv Fn_ S S.o_NoWorld hc hd hi hvv n_NoRecord n_NoEvent n_NoNumber n_NoWorld n_Barred n_Nothing (b0:=false) (b1:=false) (b2:=false) (b3:=true) (b4:=false) (b5:=false) (by rw [decide_eq_false (Ne.symm (ap 0 3 (by decide) rfl rfl))]) (by rw [decide_eq_false (Ne.symm (ap 1 3 (by decide) rfl rfl))]) (by rw [decide_eq_false (Ne.symm (ap 2 3 (by decide) rfl rfl))]) (by simp) (by rw [decide_eq_false (ap 3 4 (by decide) rfl rfl)]) (by rw [decide_eq_false (ap 3 5 (by decide) rfl rfl)]) (by decide) (j:=3) rfl (fun m hm=>by match m,hm with | 0,_=>rfl | 1,_=>rfl | 2,_=>rfl) hr (hg e oe) hde hce he hpl)) pins s σ H _ I ⟨hσ,hH,hf,fun p H' sm hp h=>q _ _ sm (rep_ref hO hp h)⟩
 rw [if_neg z3]at ht
 by_cases z4:c= "Barred"
 ·rw [if_pos z4]at ht
  cases ht
  rw [z4,S.m_Barred]at hm
  cases hm
  refine⟨_,S.o_Barred,hin _,fun e oe ev hc hd pins s σ H O Q I hH hf hσ hO q=> ?_⟩
  exact fg (ps_ret (dX hN hv Fn_ S S.o_Barred hc hd hi hvv n_NoRecord n_NoEvent n_NoNumber n_NoWorld n_Barred n_Nothing (b0:=false) (b1:=false) (b2:=false) (b3:=false) (b4:=true) (b5:=false) (by rw [decide_eq_false (Ne.symm (ap 0 4 (by decide) rfl rfl))]) (by rw [decide_eq_false (Ne.symm (ap 1 4 (by decide) rfl rfl))]) (by rw [decide_eq_false (Ne.symm (ap 2 4 (by decide) rfl rfl))]) (by rw [decide_eq_false (Ne.symm (ap 3 4 (by decide) rfl rfl))]) (by simp) (by rw [decide_eq_false (ap 4 5 (by decide) rfl rfl)]) (by decide) (j:=4) rfl (fun m hm=>by match m,hm with | 0,_=>rfl | 1,_=>rfl | 2,_=>rfl | 3,_=>rfl) hr (hg e oe) hde hce he hpl)) pins s σ H _ I ⟨hσ,hH,hf,fun p H' sm hp h=>q _ _ sm (rep_ref hO hp h)⟩
 rw [if_neg z4]at ht
 by_cases z5:c= "Nothing"
 ·rw [if_pos z5]at ht
  cases ht
  rw [z5,S.m_Nothing]at hm
  cases hm
  refine⟨_,S.o_Nothing,hin _,fun e oe ev hc hd pins s σ H O Q I hH hf hσ hO q=> ?_⟩
  exact fg (ps_ret (dX hN hv Fn_ S S.o_Nothing hc hd hi hvv n_NoRecord n_NoEvent n_NoNumber n_NoWorld n_Barred n_Nothing (b0:=false) (b1:=false) (b2:=false) (b3:=false) (b4:=false) (b5:=true) (by rw [decide_eq_false (Ne.symm (ap 0 5 (by decide) rfl rfl))]) (by rw [decide_eq_false (Ne.symm (ap 1 5 (by decide) rfl rfl))]) (by rw [decide_eq_false (Ne.symm (ap 2 5 (by decide) rfl rfl))]) (by rw [decide_eq_false (Ne.symm (ap 3 5 (by decide) rfl rfl))]) (by rw [decide_eq_false (Ne.symm (ap 4 5 (by decide) rfl rfl))]) (by simp) (by decide) (j:=5) rfl (fun m hm=>by match m,hm with | 0,_=>rfl | 1,_=>rfl | 2,_=>rfl | 3,_=>rfl | 4,_=>rfl) hr (hg e oe) hde hce he hpl)) pins s σ H _ I ⟨hσ,hH,hf,fun p H' sm hp h=>q _ _ sm (rep_ref hO hp h)⟩
 rw [if_neg z5]at ht
 cases ht
end
end G
namespace G
open PySem Tr
def eK:En->Rs Fl:=
 (az (fo (tb (o2 eqT (vr 0) (bY ah))) (aM (o2 bM (cn (.int 7)) (vr 1))) sN) (aM (o2 aI (o2 aO (vr 0) (o2 modT (vr 1) (cl bV (ac (vr 0) ah)))) (o2 bM (cn (.int 6553)) (o2 fdivT (vr 1) (cl bV (ac (vr 0) ah)))))))
def eC:List T->Rs T:=val 2 2 eK
def dR:En->Rs Fl:=
 (az (b8 (o2 modT (o2 aI (o2 bM (o2 modT (cl eC (ac (vr 0) (ac (vr 1) ah))) (cn (.int 2147483563))) (cn (.int 69069))) (o2 bM (cn (.int 104723)) (o2 aI (vr 1) (cn (.int 1))))) (cn (.int 2147483563))) (gN 3)) (az (b8 (o2 modT (o2 aI (o2 bM (vr 3) (vr 3)) (o2 fdivT (vr 3) (cn (.int 3)))) (cn (.int 2147483399))) (gN 3)) (aM (o2 modT (o2 fdivT (o2 modT (o2 aI (o2 bM (vr 3) (vr 3)) (o2 fdivT (vr 3) (cn (.int 7)))) (cn (.int 2147483647))) (cn (.int 11))) (vr 2)))))
def aq:List T->Rs T:=val 3 4 dR
def ej:En->Rs Fl:=
 (az (b8 (bY ah) (gN 1)) (az (dy (iE (ac (vr 0) ah)) (gT 2 (eR (gN 2) (eR (gN 3) gsN))) (b8 (o2 aI (vr 1) (fw (iR (ac (cl bV (ac (o2 aO (vr 3) (cn (.int 2))) ah)) ah)) [none,some 2] (gN 0) bT (bi (ac (vr 1) (ac (vr 0) ah))))) (gN 1))) (aM (vr 1))))
def cb:List T->Rs T:=val 1 4 ej
def cg:En->Rs Fl:=
 (az (b8 (cl cb (ac (vr 2) ah)) (gN 3)) (az (fo (tb (o2 ltT (cl bV (ac (vr 3) ah)) (cn (.int 2)))) (aM (cn .non)) sN) (az (b8 (cl aq (ac (vr 0) (ac (vr 1) (ac (cl bV (ac (vr 3) ah)) ah)))) (gN 4)) (az (b8 (o2 modT (o2 aI (o2 aI (vr 4) (cn (.int 1))) (cl aq (ac (vr 0) (ac (o2 aI (vr 1) (cn (.int 1))) (ac (o2 dG (cl bV (ac (vr 3) ah)) (cn (.int 1))) ah))))) (cl bV (ac (vr 3) ah))) (gN 5)) (az (b8 (cl aq (ac (vr 0) (ac (o2 aI (vr 1) (cn (.int 2))) (ac (cn (.int 8)) ah)))) (gN 6)) (az (b8 (ifE (tb (o2 eqT (cl aq (ac (vr 0) (ac (o2 aI (vr 1) (cn (.int 3))) (ac (cn (.int 3)) ah)))) (cn (.int 0)))) (cn .non) (o2 aI (vr 6) (cl aq (ac (vr 0) (ac (o2 aI (vr 1) (cn (.int 4))) (ac (cn (.int 9)) ah)))))) (gN 7)) (aM (bi (ac (o2 aO (vr 3) (vr 4)) (ac (o2 aO (vr 3) (vr 5)) (ac (vr 6) (ac (vr 7) ah))))))))))))
def cI:List T->Rs T:=val 3 8 cg
def dS:En->Rs Fl:=
 (az (b8 (o2 aI (cn (.int 1)) (cl aq (ac (vr 0) (ac (vr 1) (ac (cn (.int 3)) ah))))) (gN 2)) (az (b8 (bi (ac (cl aq (ac (vr 0) (ac (o2 aI (vr 1) (cn (.int 2))) (ac (cn (.int 6)) ah)))) ah)) (gN 3)) (az (dy (iR (ac (cl aq (ac (vr 0) (ac (o2 aI (vr 1) (cn (.int 1))) (ac (cn (.int 3)) ah)))) ah)) (gN 4) (b8 (o2 aI (vr 3) (bi (ac (o2 aI (o2 aI (o2 aO (vr 3) (o1 negT (cn (.int 1)))) (cn (.int 1))) (cl aq (ac (vr 0) (ac (o2 aI (o2 aI (vr 1) (cn (.int 3))) (vr 4)) (ac (cn (.int 5)) ah))))) ah))) (gN 3))) (aM (bi (ac (vr 2) (ac (o2 aI (vr 2) (cl aq (ac (vr 0) (ac (o2 aI (vr 1) (cn (.int 6))) (ac (cn (.int 3)) ah))))) (ac (vr 3) ah))))))))
def bU:List T->Rs T:=val 2 5 dS
def dt:En->Rs Fl:=
 (az (b8 (cl gu (ac (fw (iR (ac (o2 aI (cn (.int 1)) (cl aq (ac (vr 0) (ac (vr 1) (ac (cn (.int 3)) ah))))) ah)) [none,some 0,some 1] (gN 0) bT (cl bU (ac (vr 1) (ac (o2 aI (o2 aI (vr 2) (cn (.int 1))) (o2 bM (cn (.int 8)) (vr 0))) ah)))) ah)) (gN 3)) (az (b8 (bY ah) (gN 4)) (az (dy (iR (ac (cl aq (ac (vr 0) (ac (o2 aI (vr 1) (cn (.int 30))) (ac (o2 aI (vr 2) (cn (.int 1))) ah)))) ah)) (gN 5) (az (b8 (cl cI (ac (vr 0) (ac (o2 aI (o2 aI (vr 1) (cn (.int 31))) (o2 bM (cn (.int 6)) (vr 5))) (ac (vr 3) ah)))) (gN 6)) (b8 (o2 aI (vr 4) (o2 bM (bY (ac (vr 6) ah)) (cl intT (ac (o2 cM (vr 6) (cn .non)) ah)))) (gN 4)))) (aM (bi (ac (vr 3) (ac (cl gu (ac (vr 4) ah)) ah)))))))
def d8:List T->Rs T:=val 3 7 dt
def du:En->Rs Fl:=
 (az (sNewL 1 ah) (az (dy (iE (ac (o2 aO (vr 0) (cn (.int 0))) ah)) (gT 2 (eR (gN 2) (eR (gT 3 (eR (gN 3) (eR (gN 4) (eR (gN 5) gsN)))) gsN))) (dy (iR (ac (cn (.int 1)) (ac (cl bV (ac (vr 5) ah)) ah))) (gN 6) (az (b8 (o2 dG (o2 aO (vr 5) (vr 6)) (o2 aO (vr 5) (o2 dG (vr 6) (cn (.int 1))))) (gN 7)) (az (sApp 1 (bi (ac (bi (ac (vr 2) (ac (o2 dG (vr 6) (cn (.int 1))) ah))) (ac (bi (ac (vr 2) (ac (vr 6) ah))) (ac (o2 bM (vr 4) (vr 7)) ah))))) (sApp 1 (bi (ac (bi (ac (vr 2) (ac (vr 6) ah))) (ac (bi (ac (vr 2) (ac (o2 dG (vr 6) (cn (.int 1))) ah))) (ac (o2 dG (cn (.int 0)) (o2 bM (vr 3) (vr 7))) ah))))))))) (az (dy (iS (o2 aO (vr 0) (cn (.int 1)))) (gT 4 (eR (gN 8) (eR (gN 9) (eR (gN 10) (eR (gN 11) gsN))))) (az (sApp 1 (bi (ac (vr 9) (ac (vr 8) (ac (o2 dG (cn (.int 0)) (vr 10)) ah))))) (fo (tb (o2 cM (vr 11) (cn .non))) (sApp 1 (bi (ac (vr 8) (ac (vr 9) (ac (vr 11) ah))))) sN))) (sDis 1 (aM (vr 1))))))
def d9:List T->Rs T:=val 1 12 du
def dQ:En->Rs Fl:=
 (az (sNewDD 2 0) (az (dy (iS (vr 0)) (gN 3) (sPut2 2 (vr 3) (vr 3) (cn (.int 0)))) (az (dy (iS (vr 1)) (gT 3 (eR (gN 3) (eR (gN 4) (eR (gN 5) gsN)))) (fo (orB (tb (o2 gg (ln 2 (o2 bh (o2 bh (vr 2) (vr 3)) (vr 4))) (cn .non))) (tb (o2 ltT (vr 5) (ln 2 (o2 bh (o2 bh (vr 2) (vr 3)) (vr 4)))))) (sPut2 2 (vr 3) (vr 4) (vr 5)) sN)) (az (dy (iS (vr 0)) (gN 6) (dy (iS (vr 0)) (gN 3) (dy (iS (vr 0)) (gN 4) (fo (andB (tb (o2 cM (ln 2 (o2 bh (o2 bh (vr 2) (vr 3)) (vr 6))) (cn .non))) (tb (o2 cM (ln 2 (o2 bh (o2 bh (vr 2) (vr 6)) (vr 4))) (cn .non)))) (az (b8 (o2 aI (ln 2 (o2 bh (o2 bh (vr 2) (vr 3)) (vr 6))) (ln 2 (o2 bh (o2 bh (vr 2) (vr 6)) (vr 4)))) (gN 7)) (fo (orB (tb (o2 gg (ln 2 (o2 bh (o2 bh (vr 2) (vr 3)) (vr 4))) (cn .non))) (tb (o2 ltT (vr 7) (ln 2 (o2 bh (o2 bh (vr 2) (vr 3)) (vr 4)))))) (sPut2 2 (vr 3) (vr 4) (vr 7)) sN)) sN)))) (sDis 2 (aM (ifE (tb (o2 eqT (fw (iS (vr 0)) [none,some 2] (gN 0) (tb (o2 ltT (o2 bh (o2 bh (vr 1) (vr 0)) (vr 0)) (cn (.int 0)))) (vr 0)) (bY ah))) (vr 2) (cn .non))))))))
def fh:List T->Rs T:=val 2 8 dQ
def eJ:En->Rs Fl:=
 (az (b8 (oD dgetT (vr 0) (o2 aO (vr 1) (cn (.int 1)))) (gN 3)) (aM (orV (o2 gg (vr 3) (cn .non)) (o2 ltT (o2 aI (o2 aO (vr 2) (cn (.int 0))) (o2 aO (vr 1) (cn (.int 2)))) (o2 aO (vr 3) (cn (.int 0)))))))
def cR:List T->Rs T:=val 3 4 eJ
def fQ:En->Rs Fl:=
 (az (sNewD 2 (fw (iS (vr 1)) [none] (gN 0) bT (bi (ac (vr 0) (ac (bi (ac (cn (.int 0)) (ac (bY ah) ah))) ah))))) (az (b8 (cn (.bl true)) (gN 3)) (az (bw (tb (vr 3)) (az (b8 (cn (.bl false)) (gN 3)) (dy (iE (ac (vr 0) ah)) (gT 2 (eR (gN 4) (eR (gN 5) gsN))) (az (b8 (ln 2 (oD dgetT (vr 2) (o2 aO (vr 5) (cn (.int 0))))) (gN 6)) (az (fo (orB (tb (o2 gg (vr 6) (cn .non))) (dM (lnB 2 (tb (cl cR (ac (vr 2) (ac (vr 5) (ac (vr 6) ah)))))))) sCt sN) (az (b8 (o2 aI (o2 aO (vr 6) (cn (.int 1))) (bY (ac (vr 4) ah))) (gN 7)) (az (b8 (fw (iS (vr 7)) [none,some 0] (gN 0) bT (o2 aO (o2 aO (vr 1) (vr 0)) (cn (.int 0)))) (gN 8)) (az (fo (tb (o2 inT (o2 aO (vr 5) (cn (.int 1))) (vr 8))) (aM (bi (ac (cn .non) (ac (sl (vr 7) (pS (oL fY (vr 8) (o2 aO (vr 5) (cn (.int 1))))) pN) ah)))) sN) (az (sPut 2 (o2 aO (vr 5) (cn (.int 1))) (bi (ac (o2 aI (o2 aO (vr 6) (cn (.int 0))) (o2 aO (vr 5) (cn (.int 2)))) (ac (vr 7) ah)))) (b8 (cn (.bl true)) (gN 3)))))))))) FU) (sDis 2 (aM (bi (ac (vr 2) (ac (cn .non) ah))))))))
def dg:List T->Rs T:=val 2 9 fQ
def F_is_long:En->Rs Fl:=
 (aM (cW (o1 (isT "tuple") (vr 0)) (ch leT leT (vr 1) (cl bV (ac (vr 0) ah)) (vr 2))))
def aJ:List T->Rs T:=val 3 3 F_is_long
def F_is_whole:En->Rs Fl:=
 (aM (cW (o1 (isT "int") (vr 0)) (o1 notV (o1 (isT "bool") (vr 0)))))
def gC:List T->Rs T:=val 1 1 F_is_whole
def F_is_within:En->Rs Fl:=
 (aM (cW (cl gC (ac (vr 0) ah)) (ch leT leT (vr 1) (vr 0) (vr 2))))
def aX:List T->Rs T:=val 3 3 F_is_within
def gm:En->Rs Fl:=
 (aM (cW (cl aX (ac (vr 0) (ac (cn (.int 1)) (ac (cn (.int 9)) ah)))) (cl aX (ac (vr 1) (ac (vr 0) (ac (cn (.int 9)) ah))))))
def fq:List T->Rs T:=val 2 2 gm
def F_rises:En->Rs Fl:=
 (aM (cl allT (ac (fw (iR (ac (o2 dG (cl bV (ac (vr 0) ah)) (cn (.int 1))) ah)) [none,some 0] (gN 0) bT (o2 ltT (o2 aO (vr 1) (vr 0)) (o2 aO (vr 1) (o2 aI (vr 0) (cn (.int 1)))))) ah)))
def m_rises:List T->Rs T:=val 1 1 F_rises
def cp:En->Rs Fl:=
 (az (fo (dM (tb (cl aJ (ac (vr 0) (ac (cn (.int 1)) (ac (cn (.int 4)) ah)))))) (aM (cn (.bl false))) sN) (aM (cW (cl allT (ac (fw (iS (vr 0)) [none] (gN 0) bT (cl aX (ac (vr 0) (ac (cn (.int 0)) (ac (cn (.int 99)) ah))))) ah)) (cl m_rises (ac (vr 0) ah)))))
def bx:List T->Rs T:=val 1 1 cp
def dZ:En->Rs Fl:=
 (aM (cW (cl aJ (ac (vr 0) (ac (cn (.int 3)) (ac (cn (.int 3)) ah)))) (cW (cl fq (ac (o2 aO (vr 0) (cn (.int 0))) (ac (o2 aO (vr 0) (cn (.int 1))) ah))) (cl bx (ac (o2 aO (vr 0) (cn (.int 2))) ah)))))
def cQ:List T->Rs T:=val 1 1 dZ
def dP:En->Rs Fl:=
 (aM (cW (cl aJ (ac (vr 0) (ac (cn (.int 1)) (ac (cn (.int 4)) ah)))) (cl allT (ac (fw (iS (vr 0)) [none] (gN 0) bT (cl cQ (ac (vr 0) ah))) ah))))
def cZ:List T->Rs T:=val 1 1 dP
def F_is_event:En->Rs Fl:=
 (az (fo (orB (dM (tb (cl aJ (ac (vr 1) (ac (cn (.int 2)) (ac (cn (.int 2)) ah)))))) (dM (tb (cl aX (ac (o2 aO (vr 1) (cn (.int 0))) (ac (cn (.int 0)) (ac (o2 dG (cl bV (ac (vr 0) ah)) (cn (.int 1))) ah))))))) (aM (cn (.bl false))) sN) (aM (cl aX (ac (o2 aO (vr 1) (cn (.int 1))) (ac (cn (.int 0)) (ac (o2 dG (cl bV (ac (o2 aO (o2 aO (vr 0) (o2 aO (vr 1) (cn (.int 0)))) (cn (.int 2))) ah)) (cn (.int 1))) ah))))))
def fL:List T->Rs T:=val 2 2 F_is_event
def F_is_delay:En->Rs Fl:=
 (aM (cW (cl aX (ac (vr 0) (ac (cn (.int 0)) (ac (cn (.int 999)) ah)))) (orV (o2 gg (vr 1) (cn .non)) (cl aX (ac (vr 1) (ac (vr 0) (ac (cn (.int 999)) ah)))))))
def gD:List T->Rs T:=val 2 2 F_is_delay
def F_is_letter:En->Rs Fl:=
 (az (fo (orB (dM (tb (cl aJ (ac (vr 1) (ac (cn (.int 4)) (ac (cn (.int 4)) ah)))))) (dM (tb (cl gD (ac (o2 aO (vr 1) (cn (.int 2))) (ac (o2 aO (vr 1) (cn (.int 3))) ah)))))) (aM (cn (.bl false))) sN) (aM (cW (cl fL (ac (vr 0) (ac (o2 aO (vr 1) (cn (.int 0))) ah))) (cW (cl fL (ac (vr 0) (ac (o2 aO (vr 1) (cn (.int 1))) ah))) (o2 neT (o2 aO (vr 1) (cn (.int 0))) (o2 aO (vr 1) (cn (.int 1))))))))
def ez:List T->Rs T:=val 2 2 F_is_letter
def dq:En->Rs Fl:=
 (aM (cW (cl aJ (ac (vr 1) (ac (cn (.int 0)) (ac (cn (.int 8)) ah)))) (cl allT (ac (fw (iS (vr 1)) [none,some 0] (gN 0) bT (cl ez (ac (vr 1) (ac (vr 0) ah)))) ah))))
def cH:List T->Rs T:=val 2 2 dq
def F_is_record:En->Rs Fl:=
 (aM (cW (cl aJ (ac (vr 0) (ac (cn (.int 2)) (ac (cn (.int 2)) ah)))) (cW (cl cZ (ac (o2 aO (vr 0) (cn (.int 0))) ah)) (cl cH (ac (o2 aO (vr 0) (cn (.int 0))) (ac (o2 aO (vr 0) (cn (.int 1))) ah))))))
def fX:List T->Rs T:=val 1 1 F_is_record
def cf:En->Rs Fl:=
 (fo (dM (tb (cl fX (ac (vr 0) ah)))) (sErr "NoRecord") sN)
def b9:List T->Rs T:=val 1 1 cf
def b6:En->Rs Fl:=
 (az (b8 (o2 aO (vr 1) (cn (.int 2))) (gN 2)) (az (sNewL 3 ah) (az (dy (iR (ac (o2 dG (cl bV (ac (vr 2) ah)) (cn (.int 1))) ah)) (gN 4) (az (b8 (bi (ac (vr 0) (ac (vr 4) ah))) (gN 5)) (az (b8 (bi (ac (vr 0) (ac (o2 aI (vr 4) (cn (.int 1))) ah))) (gN 6)) (az (b8 (o2 dG (o2 aO (vr 2) (o2 aI (vr 4) (cn (.int 1)))) (o2 aO (vr 2) (vr 4))) (gN 7)) (az (sApp 3 (bi (ac (vr 5) (ac (vr 6) (ac (o2 bM (vr 7) (o2 aO (vr 1) (cn (.int 1)))) ah))))) (sApp 3 (bi (ac (vr 6) (ac (vr 5) (ac (o2 bM (o1 negT (vr 7)) (o2 aO (vr 1) (cn (.int 0)))) ah)))))))))) (sDis 3 (aM (vr 3))))))
def bS:List T->Rs T:=val 2 8 b6
def bQ:En->Rs Fl:=
 (az (sNewL 1 (ac (bi (ac (o2 aO (vr 0) (cn (.int 1))) (ac (o2 aO (vr 0) (cn (.int 0))) (ac (o1 negT (o2 aO (vr 0) (cn (.int 2)))) ah)))) ah)) (az (fo (tb (o2 cM (o2 aO (vr 0) (cn (.int 3))) (cn .non))) (sApp 1 (bi (ac (o2 aO (vr 0) (cn (.int 0))) (ac (o2 aO (vr 0) (cn (.int 1))) (ac (o2 aO (vr 0) (cn (.int 3))) ah))))) sN) (sDis 1 (aM (vr 1)))))
def bP:List T->Rs T:=val 1 2 bQ
def fR:En->Rs Fl:=
 (az (sEx (cl b9 (ac (vr 0) ah))) (az (sNewL 1 ah) (az (dy (iE (ac (o2 aO (vr 0) (cn (.int 0))) ah)) (gT 2 (eR (gN 2) (eR (gN 3) gsN))) (sExt 1 (cl bS (ac (vr 2) (ac (vr 3) ah))))) (az (dy (iS (o2 aO (vr 0) (cn (.int 1)))) (gN 4) (sExt 1 (cl bP (ac (vr 4) ah)))) (sDis 1 (aM (vr 1)))))))
def di:List T->Rs T:=val 1 5 fR
def F_events:En->Rs Fl:=
 (az (sEx (cl b9 (ac (vr 0) ah))) (az (sNewL 1 ah) (az (dy (iE (ac (o2 aO (vr 0) (cn (.int 0))) ah)) (gT 2 (eR (gN 2) (eR (gN 3) gsN))) (sExt 1 (fw (iR (ac (cl bV (ac (o2 aO (vr 3) (cn (.int 2))) ah)) ah)) [none,some 2] (gN 0) bT (bi (ac (vr 1) (ac (vr 0) ah)))))) (sDis 1 (aM (vr 1))))))
def fM:List T->Rs T:=val 1 4 F_events
def F_barring:En->Rs Fl:=
 (aM (o2 aO (cl dg (ac (cl di (ac (vr 0) ah)) (ac (cl fM (ac (vr 0) ah)) ah))) (cn (.int 1))))
def ft:List T->Rs T:=val 1 1 F_barring
def dm:En->Rs Fl:=
 (aM (cW (o1 (isT "list") (vr 1)) (cl allT (ac (fw (iS (vr 1)) [none,some 0] (gN 0) bT (cl aX (ac (vr 0) (ac (cn (.int 0)) (ac (o2 dG (cl bV (ac (vr 1) ah)) (cn (.int 1))) ah))))) ah))))
def ca:List T->Rs T:=val 2 2 dm
def gJ:En->Rs Fl:=
 (az (fo (dM (tb (cl ca (ac (vr 0) (ac (vr 3) ah))))) (aM (cn (.bl false))) sN) (az (b8 (vr 1) (gN 4)) (az (dy (iS (vr 3)) (gN 5) (az (fo (tb (o2 neT (o2 aO (o2 aO (vr 0) (vr 5)) (cn (.int 0))) (vr 4))) (aM (cn (.bl false))) sN) (b8 (o2 aO (o2 aO (vr 0) (vr 5)) (cn (.int 1))) (gN 4)))) (aM (o2 eqT (vr 4) (vr 2))))))
def m_leads:List T->Rs T:=val 4 6 gJ
def dk:En->Rs Fl:=
 (az (fo (orB (dM (tb (cl ca (ac (vr 0) (ac (vr 1) ah))))) (tb (o2 eqT (vr 1) (bY ah)))) (aM (cn (.bl false))) sN) (az (b8 (o2 aO (o2 aO (vr 0) (o2 aO (vr 1) (cn (.int 0)))) (cn (.int 0))) (gN 2)) (aM (cl m_leads (ac (vr 0) (ac (vr 2) (ac (vr 2) (ac (vr 1) ah))))))))
def dh:List T->Rs T:=val 2 3 dk
def F_sum_of:En->Rs Fl:=
 (aM (cl sumT (ac (fw (iS (vr 1)) [none,some 0] (gN 0) bT (o2 aO (o2 aO (vr 1) (vr 0)) (cn (.int 2)))) ah)))
def m_sum_of:List T->Rs T:=val 2 2 F_sum_of
def F_bars:En->Rs Fl:=
 (az (b8 (cl di (ac (vr 0) ah)) (gN 2)) (aM (cW (cl dh (ac (vr 2) (ac (vr 1) ah))) (o2 ltT (cl m_sum_of (ac (vr 2) (ac (vr 1) ah))) (cn (.int 0))))))
def m_bars:List T->Rs T:=val 2 3 F_bars
def F__law_told:En->Rs Fl:=
 (sTry (aM (ifE (tb (o2 eqT (vr 0) (cn (.int 0)))) (cl ft (ac (vr 1) ah)) (cl m_bars (ac (vr 1) (ac (vr 2) ah))))) hRef)
def bz:List T->Rs T:=val 3 4 F__law_told
def cm:En->Rs Fl:=
 (az (b8 (cl fM (ac (vr 0) ah)) (gN 2)) (az (b8 (o2 aO (cl dg (ac (vr 1) (ac (vr 2) ah))) (cn (.int 0))) (gN 3)) (az (fo (tb (o2 gg (vr 3) (cn .non))) (aM (cn .non)) sN) (aM (cl gu (ac (fw (iS (vr 2)) [none,some 3] (gN 0) bT (o2 aO (o2 bh (vr 1) (vr 0)) (cn (.int 0)))) ah))))))
def cY:List T->Rs T:=val 2 4 cm
def F_world:En->Rs Fl:=
 (aM (cl cY (ac (vr 0) (ac (cl di (ac (vr 0) ah)) ah))))
def m_world:List T->Rs T:=val 1 1 F_world
def F_has_world:En->Rs Fl:=
 (aM (o2 cM (cl m_world (ac (vr 0) ah)) (cn .non)))
def dA:List T->Rs T:=val 1 1 F_has_world
def eM:En->Rs Fl:=
 (az (fo (orB (dM (tb (o1 (isT "list") (vr 1)))) (tb (o2 eqT (vr 1) (bY ah)))) (aM (cn (.bl false))) sN) (az (b8 (cn (.int 0)) (gN 2)) (az (dy (iE (ac (vr 1) ah)) (gT 2 (eR (gN 3) (eR (gN 4) gsN))) (fo (orB (dM (tb (o1 (isT "int") (vr 4)))) (orB (tb (o1 (isT "bool") (vr 4))) (dM (tb (ch leT ltT (cn (.int 0)) (vr 4) (cl bV (ac (vr 0) ah))))))) (aM (cn (.bl false))) sN)) (az (dy (iE (ac (vr 1) ah)) (gT 2 (eR (gN 3) (eR (gN 4) gsN))) (az (fo (tb (o2 neT (o2 aO (o2 aO (vr 0) (o2 aO (vr 1) (o2 dG (vr 3) (cn (.int 1))))) (cn (.int 1))) (o2 aO (o2 aO (vr 0) (vr 4)) (cn (.int 0))))) (aM (cn (.bl false))) sN) (b8 (o2 aI (vr 2) (o2 aO (o2 aO (vr 0) (vr 4)) (cn (.int 2)))) (gN 2)))) (aM (o2 ltT (vr 2) (cn (.int 0))))))))
def dB:List T->Rs T:=val 2 5 eM
def F_law:En->Rs Fl:=
 (az (b8 (cl d8 (ac (vr 0) (ac (cn (.int 0)) (ac (cn (.int 6)) ah)))) (gN 1)) (az (b8 (cl d9 (ac (vr 1) ah)) (gN 2)) (az (b8 (cl fh (ac (cl cb (ac (o2 aO (vr 1) (cn (.int 0))) ah)) (ac (vr 2) ah))) (gN 3)) (az (b8 (cl bz (ac (cn (.int 0)) (ac (vr 1) (ac (cn .non) ah)))) (gN 4)) (az (fo (orB (tb (o2 neT (o2 gg (vr 4) (cn .non)) (o2 cM (vr 3) (cn .non)))) (tb (o2 neT (cl dA (ac (vr 1) ah)) (o2 cM (vr 3) (cn .non))))) (aM (cn (.bl false))) sN) (az (fo (andB (tb (o2 cM (vr 4) (cn .non))) (dM (tb (cl dB (ac (vr 2) (ac (vr 4) ah)))))) (aM (cn (.bl false))) sN) (az (b8 (vr 4) (gN 5)) (az (fo (tb (o2 gg (vr 4) (cn .non))) (b8 (fw (iR (ac (cl aq (ac (vr 0) (ac (cn (.int 90)) (ac (cn (.int 4)) ah)))) ah)) [none,some 0,some 2] (gN 0) bT (cl aq (ac (vr 1) (ac (o2 aI (cn (.int 80)) (vr 0)) (ac (o2 aI (cl bV (ac (vr 2) ah)) (cn (.int 1))) ah))))) (gN 5)) sN) (az (b8 (cl aq (ac (vr 0) (ac (cn (.int 91)) (ac (o2 aI (cl bV (ac (vr 5) ah)) (cn (.int 1))) ah)))) (gN 6)) (az (b8 (o2 aO (bY (ac (o1 negT (cn (.int 1))) (ac (cl bV (ac (vr 2) ah)) (ac (cn (.bl true)) (ac (cn .non) (ac (cn (.str "0")) (ac (cn (.int 0)) (ac (cn (.int 1)) ah)))))))) (cl aq (ac (vr 0) (ac (cn (.int 92)) (ac (cn (.int 7)) ah))))) (gN 7)) (az (b8 (bY (ac (vr 5) (ac (o2 aI (sl (vr 5) pN (pS (vr 6))) (sl (vr 5) (pS (o2 aI (vr 6) (cn (.int 1)))) pN)) (ac (o2 aI (sl (vr 5) pN (pS (o2 aI (vr 6) (cn (.int 1))))) (sl (vr 5) (pS (vr 6)) pN)) (ac (o2 aI (o2 aI (sl (vr 5) pN (pS (vr 6))) (bY (ac (vr 7) ah))) (sl (vr 5) (pS (o2 aI (vr 6) (cn (.int 1)))) pN)) ah))))) (gN 8)) (az (b8 (o2 aI (vr 8) (bY (ac (o1 revT (vr 5)) (ac (o2 aI (sl (vr 5) (pS (vr 6)) pN) (sl (vr 5) pN (pS (vr 6)))) (ac (o2 aI (vr 5) (vr 5)) (ac (bY ah) ah)))))) (gN 8)) (az (b8 (o2 aI (vr 8) (bY (ac (cl gu (ac (vr 5) ah)) (ac (cn .non) (ac (bY (ac (cn (.int 0)) ah)) (ac (bY (ac (cn (.int 0)) (ac (cn (.int 1)) ah))) ah)))))) (gN 8)) (az (dy (iS (vr 8)) (gN 9) (fo (tb (o2 neT (cl bz (ac (cn (.int 1)) (ac (vr 1) (ac (vr 9) ah)))) (cl dB (ac (vr 2) (ac (vr 9) ah))))) (aM (cn (.bl false))) sN)) (aM (o2 eqT (fw (iR (ac (cn (.int 2)) ah)) [none,some 1,some 5] (gN 0) bT (cl bz (ac (vr 0) (ac (o1 revT (vr 1)) (ac (vr 2) ah))))) (o2 bM (bY (ac (bi (ac (cn (.str "refused")) (ac (cn (.int 0)) ah))) ah)) (cn (.int 2)))))))))))))))))))
def m_law:List T->Rs T:=val 1 10 F_law
end G
namespace G
open PySem PySem.Spec PyProof.Rows L2 Tr
section
variable {P:Program}{w:World}{K:PySem.W.Frag}{mg:Str->Option Value}{base:Heap}
abbrev st__law_cell:Stmt:=top 48
theorem sc__law_cell:aB ["_law_script","_law_k"] ["_law_script","_law_k"] (aj st__law_cell):=⟨rfl,rfl,rfl,by decide+kernel,rfl,by decide+kernel,by decide+kernel⟩
theorem ok__law_cell (F:gn K mg "_law_cell" st__law_cell ["_law_script","_law_k"])(B:Bl mg):Cl P w K mg base 1 "_law_cell" 2 eC:=
 bq F sc__law_cell rfl fun f cdv A outer s H E hr xe=>(ak (bJ (aZ (ot_eq (hu60 hr)) (ad 0) (cJ af)) (ao (ay (ar cL ag (ad 1)))) bj) (ao (ay (ar aH (aF (ad 0) (ar ot_mod (ad 1) (cE cC B.b_len boot_len (ae (ad 0) af)))) (ar cL ag (ar ot_fdiv (ad 1) (cE cC B.b_len boot_len (ae (ad 0) af))))))))
abbrev st__law_drawn:Stmt:=top 49
theorem sc__law_drawn:aB ["_law_script","_law_k","_law_many","_law_cell_here"] ["_law_script","_law_k","_law_many"] (aj st__law_drawn):=⟨rfl,rfl,rfl,by decide+kernel,rfl,by decide+kernel,by decide+kernel⟩
theorem ok__law_drawn (F:gn K mg "_law_drawn" st__law_drawn ["_law_script","_law_k","_law_many"])(c__law_cell:Cl P w K mg base 1 "_law_cell" 2 eC):Cl P w K mg base 2 "_law_drawn" 3 aq:=
 bq F sc__law_drawn rfl fun f cdv A outer s H E hr xe=>(by(refine @ak _ _ _ _ _ ?_ ?_;(focus exact(aE (ar ot_mod (ar aH (ar cL (ar ot_mod (aV c__law_cell hr (ae (ad 0) (ae (ad 1) af))) ag) ag) (ar cL ag (ar aH (ad 1) ag))) ag) (ai 3 sc__law_drawn.nd)));refine @ak _ _ _ _ _ ?_ ?_;(focus exact(aE (ar ot_mod (ar aH (ar cL (ad 3) (ad 3)) (ar ot_fdiv (ad 3) ag)) ag) (ai 3 sc__law_drawn.nd)));exact ao (ay (ar ot_mod (ar ot_fdiv (ar ot_mod (ar aH (ar cL (ad 3) (ad 3)) (ar ot_fdiv (ad 3) ag)) ag) ag) (ad 2)))))
abbrev fI:Stmt:=top 52
theorem sc__law_events:aB ["_law_clocks","_law_found","_law_number","_law_clock_here"] ["_law_clocks"] (aj fI):=⟨rfl,rfl,rfl,by decide+kernel,rfl,by decide+kernel,by decide+kernel⟩
theorem ok__law_events (F:gn K mg "_law_events" fI ["_law_clocks"])(B:Bl mg):Cl P w K mg base 1 "_law_events" 1 cb:=
 bq F sc__law_events rfl fun f cdv A outer s H E hr xe=>(by(refine @ak _ _ _ _ _ ?_ ?_;(focus exact(aE (cJ af) (ai 1 sc__law_events.nd)));refine @ak _ _ _ _ _ ?_ ?_;(focus exact(bD rfl (fz B.b_enumerate (ae (ad 0) af)) (d6 rfl (aN (ai 2 sc__law_events.nd) (aN (ai 3 sc__law_events.nd) df))) (ao (aE (ar aH (ad 1) (fU (N':=["_law_place","_law_number"]) (src:=[none,some 2]) rfl (LcScope.by (N:=["_law_clocks","_law_found","_law_number","_law_clock_here"]) (names:=(aj fI).names) rfl rfl rfl (by decide+kernel)) (cv B.b_range (ae (cE cC B.b_len boot_len (ae (aF (ad 3) ag) af)) af)) (fun _ _ _ _ _=>⟨(ai 0 (show List.Nodup (["_law_place","_law_number"]:List Str)by decide+kernel)),bR,(bu (ae (ad 1) (ae (ad 0) af)))⟩))) (ai 1 sc__law_events.nd)))));exact ao (ay (ad 1))))
abbrev st__law_letter:Stmt:=top 51
theorem sc__law_letter:aB ["_law_script","_law_at","_law_clocks","_law_row","_law_place","_law_other","_law_least","_law_most"] ["_law_script","_law_at","_law_clocks"] (aj st__law_letter):=⟨rfl,rfl,rfl,by decide+kernel,rfl,by decide+kernel,by decide+kernel⟩
theorem ok__law_letter (F:gn K mg "_law_letter" st__law_letter ["_law_script","_law_at","_law_clocks"])(c__law_events:Cl P w K mg base 1 "_law_events" 1 cb)(c__law_drawn:Cl P w K mg base 2 "_law_drawn" 3 aq)(B:Bl mg):Cl P w K mg base 3 "_law_letter" 3 cI:=
 bq F sc__law_letter rfl fun f cdv A outer s H E hr xe=>(by(refine @ak _ _ _ _ _ ?_ ?_;(focus exact(aE (aV c__law_events hr (ae (ad 2) af)) (ai 3 sc__law_letter.nd)));refine @ak _ _ _ _ _ ?_ ?_;(focus exact(bJ (aZ ot_lt (cE cC B.b_len boot_len (ae (ad 3) af)) ag) (ao (ay bv)) bj));refine @ak _ _ _ _ _ ?_ ?_;(focus exact(aE (aV c__law_drawn hr (ae (ad 0) (ae (ad 1) (ae (cE cC B.b_len boot_len (ae (ad 3) af)) af)))) (ai 4 sc__law_letter.nd)));refine @ak _ _ _ _ _ ?_ ?_;(focus exact(aE (ar ot_mod (ar aH (ar aH (ad 4) ag) (aV c__law_drawn hr (ae (ad 0) (ae (ar aH (ad 1) ag) (ae (ar dJ (cE cC B.b_len boot_len (ae (ad 3) af)) ag) af))))) (cE cC B.b_len boot_len (ae (ad 3) af))) (ai 5 sc__law_letter.nd)));refine @ak _ _ _ _ _ ?_ ?_;(focus exact(aE (aV c__law_drawn hr (ae (ad 0) (ae (ar aH (ad 1) ag) (ae ag af)))) (ai 6 sc__law_letter.nd)));refine @ak _ _ _ _ _ ?_ ?_;(focus exact(aE (zq_if (aZ (ot_eq (hu60 hr)) (aV c__law_drawn hr (ae (ad 0) (ae (ar aH (ad 1) ag) (ae ag af)))) ag) bv (ar aH (ad 6) (aV c__law_drawn hr (ae (ad 0) (ae (ar aH (ad 1) ag) (ae ag af)))))) (ai 7 sc__law_letter.nd)));exact ao (ay (bu (ae (aF (ad 3) (ad 4)) (ae (aF (ad 3) (ad 5)) (ae (ad 6) (ae (ad 7) af))))))))
abbrev st__law_clock:Stmt:=top 50
theorem sc__law_clock:aB ["_law_script","_law_at","_law_slow","_law_readings","_law_k"] ["_law_script","_law_at"] (aj st__law_clock):=⟨rfl,rfl,rfl,by decide+kernel,rfl,by decide+kernel,by decide+kernel⟩
theorem ok__law_clock (F:gn K mg "_law_clock" st__law_clock ["_law_script","_law_at"])(c__law_drawn:Cl P w K mg base 2 "_law_drawn" 3 aq)(B:Bl mg):Cl P w K mg base 3 "_law_clock" 2 bU:=
 bq F sc__law_clock rfl fun f cdv A outer s H E hr xe=>(by(refine @ak _ _ _ _ _ ?_ ?_;(focus exact(aE (ar aH ag (aV c__law_drawn hr (ae (ad 0) (ae (ad 1) (ae ag af))))) (ai 2 sc__law_clock.nd)));refine @ak _ _ _ _ _ ?_ ?_;(focus exact(aE (bu (ae (aV c__law_drawn hr (ae (ad 0) (ae (ar aH (ad 1) ag) (ae ag af)))) af)) (ai 3 sc__law_clock.nd)));refine @ak _ _ _ _ _ ?_ ?_;(focus exact(bD rfl (cv B.b_range (ae (aV c__law_drawn hr (ae (ad 0) (ae (ar aH (ad 1) ag) (ae ag af)))) af)) (ai 4 sc__law_clock.nd) (ao (aE (ar aH (ad 3) (bu (ae (ar aH (ar aH (aF (ad 3) (zq_neg ag)) ag) (aV c__law_drawn hr (ae (ad 0) (ae (ar aH (ar aH (ad 1) ag) (ad 4)) (ae ag af))))) af))) (ai 3 sc__law_clock.nd)))));exact ao (ay (bu (ae (ad 2) (ae (ar aH (ad 2) (aV c__law_drawn hr (ae (ad 0) (ae (ar aH (ad 1) ag) (ae ag af))))) (ae (ad 3) af)))))))
abbrev fH:Stmt:=top 53
theorem sc__law_record:aB ["_law_script","_law_at","_law_most","_law_clocks","_law_letters","_law_k","_law_letter_here"] ["_law_script","_law_at","_law_most"] (aj fH):=⟨rfl,rfl,rfl,by decide+kernel,rfl,by decide+kernel,by decide+kernel⟩
theorem ok__law_record (F:gn K mg "_law_record" fH ["_law_script","_law_at","_law_most"])(c__law_drawn:Cl P w K mg base 2 "_law_drawn" 3 aq)(c__law_letter:Cl P w K mg base 3 "_law_letter" 3 cI)(c__law_clock:Cl P w K mg base 3 "_law_clock" 2 bU)(B:Bl mg):Cl P w K mg base 4 "_law_record" 3 d8:=
 bq F sc__law_record rfl fun f cdv A outer s H E hr xe=>(by(refine @ak _ _ _ _ _ ?_ ?_;(focus exact(aE (zq_cT ct_tuple B.b_tuple dj (ae (fU (N':=["_law_k","_law_script","_law_at"]) (src:=[none,some 0,some 1]) rfl (LcScope.by (N:=["_law_script","_law_at","_law_most","_law_clocks","_law_letters","_law_k","_law_letter_here"]) (names:=(aj fH).names) rfl rfl rfl (by decide+kernel)) (cv B.b_range (ae (ar aH ag (aV c__law_drawn hr (ae (ad 0) (ae (ad 1) (ae ag af))))) af)) (fun _ _ _ _ _=>⟨(ai 0 (show List.Nodup (["_law_k","_law_script","_law_at"]:List Str)by decide+kernel)),bR,(aV c__law_clock hr (ae (ad 1) (ae (ar aH (ar aH (ad 2) ag) (ar cL ag (ad 0))) af)))⟩)) af)) (ai 3 sc__law_record.nd)));refine @ak _ _ _ _ _ ?_ ?_;(focus exact(aE (cJ af) (ai 4 sc__law_record.nd)));refine @ak _ _ _ _ _ ?_ ?_;(focus exact(bD rfl (cv B.b_range (ae (aV c__law_drawn hr (ae (ad 0) (ae (ar aH (ad 1) ag) (ae (ar aH (ad 2) ag) af)))) af)) (ai 5 sc__law_record.nd) (ak (aE (aV c__law_letter hr (ae (ad 0) (ae (ar aH (ar aH (ad 1) ag) (ar cL ag (ad 5))) (ae (ad 3) af)))) (ai 6 sc__law_record.nd)) (ao (aE (ar aH (ad 4) (ar cL (cJ (ae (ad 6) af)) (zq_cT ct_int B.b_int boot_ty_int (ae (dF dL (ad 6) bv) af)))) (ai 4 sc__law_record.nd))))));exact ao (ay (bu (ae (ad 3) (ae (zq_cT ct_tuple B.b_tuple dj (ae (ad 4) af)) af))))))
abbrev st__law_bounds:Stmt:=top 54
theorem sc__law_bounds:aB ["_law_record_here","_law_found","_law_number","_law_slow","_law_fast","_law_readings","_law_k","_law_steps","_law_one","_law_other","_law_least","_law_most"] ["_law_record_here"] (aj st__law_bounds):=⟨rfl,rfl,rfl,by decide+kernel,rfl,by decide+kernel,by decide+kernel⟩
theorem ok__law_bounds (F:gn K mg "_law_bounds" st__law_bounds ["_law_record_here"])(B:Bl mg):Cl P w K mg base 1 "_law_bounds" 1 d9:=
 bq F sc__law_bounds rfl fun f cdv A outer s H E hr xe=>(by(refine @ak _ _ _ _ _ ?_ ?_;(focus exact(zqs_newL 1 sc__law_bounds.nd af));refine @ak _ _ _ _ _ ?_ ?_;(focus exact(bD rfl (fz B.b_enumerate (ae (aF (ad 0) ag) af)) (d6 rfl (aN (ai 2 sc__law_bounds.nd) (aN (d6 rfl (aN (ai 3 sc__law_bounds.nd) (aN (ai 4 sc__law_bounds.nd) (aN (ai 5 sc__law_bounds.nd) df)))) df))) (ao (bD rfl (zqi_range2 B.b_range (ae ag (ae (cE cC B.b_len boot_len (ae (ad 5) af)) af))) (ai 6 sc__law_bounds.nd) (by(refine @ak _ _ _ _ _ ?_ ?_;(focus exact(aE (ar dJ (aF (ad 5) (ad 6)) (aF (ad 5) (ar dJ (ad 6) ag))) (ai 7 sc__law_bounds.nd)));refine @ak _ _ _ _ _ ?_ ?_;(focus exact(gq 1 (bu (ae (bu (ae (ad 2) (ae (ar dJ (ad 6) ag) af))) (ae (bu (ae (ad 2) (ae (ad 6) af))) (ae (ar cL (ad 4) (ad 7)) af))))));exact ao (gq 1 (bu (ae (bu (ae (ad 2) (ae (ad 6) af))) (ae (bu (ae (ad 2) (ae (ar dJ (ad 6) ag) af))) (ae (ar dJ ag (ar cL (ad 3) (ad 7))) af)))))))))));refine @ak _ _ _ _ _ ?_ ?_;(focus exact(bD rfl (bF (aF (ad 0) ag)) (d6 rfl (aN (ai 8 sc__law_bounds.nd) (aN (ai 9 sc__law_bounds.nd) (aN (ai 10 sc__law_bounds.nd) (aN (ai 11 sc__law_bounds.nd) df))))) (ak (gq 1 (bu (ae (ad 9) (ae (ad 8) (ae (ar dJ ag (ad 10)) af))))) (ao (bJ (aZ dL (ad 11) bv) (ao (gq 1 (bu (ae (ad 8) (ae (ad 9) (ae (ad 11) af)))))) bj)))));exact ao (gp 1 (ay (ad 1)))))
abbrev d7:Stmt:=top 55
theorem sc__law_table:aB ["_law_places","_law_row","_law_far","_law_one","_law_other","_law_most","_law_middle","_law_whole"] ["_law_places","_law_row"] (aj d7):=⟨rfl,rfl,rfl,by decide+kernel,rfl,by decide+kernel,by decide+kernel⟩
theorem ok__law_table (F:gn K mg "_law_table" d7 ["_law_places","_law_row"])(B:Bl mg):Cl P w K mg base 1 "_law_table" 2 fh:=
 bq F sc__law_table rfl fun f cdv A outer s H E hr xe=>(by(refine @ak _ _ _ _ _ ?_ ?_;(focus exact(zqs_newDD 2 0 (N':=["_law_one","_law_places"]) (src:=[none]) (hu8 hr) rfl B.b_dict sc__law_table.nd (LcScope.by (N:=["_law_places","_law_row","_law_far","_law_one","_law_other","_law_most","_law_middle","_law_whole"]) (names:=(aj d7).names) rfl rfl rfl (by decide+kernel)) (bF (ad 0)) (by decide) (fun _ _ _ _ _=>⟨(ai 0 (show List.Nodup (["_law_one","_law_places"]:List Str)by decide+kernel)),pv 0,pe_row (hu8 hr) rfl B.b_dict rfl (LcScope.byN (N:=["_law_one","_law_places"]) (N':=["_law_other"]) rfl rfl (by decide+kernel) rfl) (bF (ad 1)).h (fun _ _ _ _ _=>⟨(ai 0 (show List.Nodup (["_law_other"]:List Str)by decide+kernel)).h,pv 0,rfl⟩) (fun _=>rfl)⟩)));refine @ak _ _ _ _ _ ?_ ?_;(focus exact(bD rfl (bF (ad 0)) (ai 3 sc__law_table.nd) (ao (zqs_put2 2 (hu1 hr) (ad 3) (ad 3) ag))));refine @ak _ _ _ _ _ ?_ ?_;(focus exact(bD rfl (bF (ad 1)) (d6 rfl (aN (ai 3 sc__law_table.nd) (aN (ai 4 sc__law_table.nd) (aN (ai 5 sc__law_table.nd) df)))) (ao (bJ (zqt_w (gc (aZ ot_is (zq_ln 2 (cw (hu1 hr) (cw (hu1 hr) (ad 2) (ad 3)) (ad 4))) bv) (ff (aZ ot_lt (ad 5) (zq_ln 2 (cw (hu1 hr) (cw (hu1 hr) (ad 2) (ad 3)) (ad 4))))))) (ao (zqs_put2 2 (hu1 hr) (ad 3) (ad 4) (ad 5))) bj))));refine @ak _ _ _ _ _ ?_ ?_;(focus exact(bD rfl (bF (ad 0)) (ai 6 sc__law_table.nd) (ao (bD rfl (bF (ad 0)) (ai 3 sc__law_table.nd) (ao (bD rfl (bF (ad 0)) (ai 4 sc__law_table.nd) (ao (bJ (zqt_w (zqw_and (aZ dL (zq_ln 2 (cw (hu1 hr) (cw (hu1 hr) (ad 2) (ad 3)) (ad 6))) bv) (zqw_and1 (aZ dL (zq_ln 2 (cw (hu1 hr) (cw (hu1 hr) (ad 2) (ad 6)) (ad 4))) bv)))) (ak (aE (ar aH (zq_ln 2 (cw (hu1 hr) (cw (hu1 hr) (ad 2) (ad 3)) (ad 6))) (zq_ln 2 (cw (hu1 hr) (cw (hu1 hr) (ad 2) (ad 6)) (ad 4)))) (ai 7 sc__law_table.nd)) (ao (bJ (zqt_w (gc (aZ ot_is (zq_ln 2 (cw (hu1 hr) (cw (hu1 hr) (ad 2) (ad 3)) (ad 4))) bv) (ff (aZ ot_lt (ad 7) (zq_ln 2 (cw (hu1 hr) (cw (hu1 hr) (ad 2) (ad 3)) (ad 4))))))) (ao (zqs_put2 2 (hu1 hr) (ad 3) (ad 4) (ad 7))) bj))) bj))))))));exact ao (gp 2 (ay (zq_if (aZ (ot_eq (hu60 hr)) (fU (N':=["_law_one","_law_far"]) (src:=[none,some 2]) rfl (LcScope.by (N:=["_law_places","_law_row","_law_far","_law_one","_law_other","_law_most","_law_middle","_law_whole"]) (names:=(aj d7).names) rfl rfl rfl (by decide+kernel)) (bF (ad 0)) (fun _ _ _ _ _=>⟨(ai 0 (show List.Nodup (["_law_one","_law_far"]:List Str)by decide+kernel)),(zqif_one (aZ ot_lt (cw (hu1 hr) (cw (hu1 hr) (ad 1) (ad 0)) (ad 0)) ag)),(ad 0)⟩)) (cJ af)) (ad 2) bv)))))
abbrev st_is_better:Stmt:=top 40
theorem sc_is_better:aB ["best","bound","ahead","known"] ["best","bound","ahead"] (aj st_is_better):=⟨rfl,rfl,rfl,by decide+kernel,rfl,by decide+kernel,by decide+kernel⟩
theorem ok_is_better (F:gn K mg "is_better" st_is_better ["best","bound","ahead"]):Cl P w K mg base 1 "is_better" 3 cR:=
 bq F sc_is_better rfl fun f cdv A outer s H E hr xe=>(ak (aE (zq_dget (hu1 hr) (ad 0) (aF (ad 1) ag)) (ai 3 sc_is_better.nd)) (ao (ay (zq_or (dF ot_is (ad 3) bv) (dw (dF ot_lt (ar aH (aF (ad 2) ag) (aF (ad 1) ag)) (aF (ad 3) ag)))))))
abbrev st_settle:Stmt:=top 39
theorem sc_settle:aB ["limits","starts","best","moved","number","bound","ahead","walk","passed"] ["limits","starts"] (aj st_settle):=⟨rfl,rfl,rfl,by decide+kernel,rfl,by decide+kernel,by decide+kernel⟩
theorem ok_settle (F:gn K mg "settle" st_settle ["limits","starts"])(c_is_better:Cl P w K mg base 1 "is_better" 3 cR)(B:Bl mg):Cl P w K mg base 2 "settle" 2 dg:=
 bq F sc_settle rfl fun f cdv A outer s H E hr xe=>(by(refine @ak _ _ _ _ _ ?_ ?_;(focus exact(zqs_newD 2 (hu8 hr) rfl B.b_dict sc_settle.nd (fU (N':=["event"]) (src:=[none]) rfl (LcScope.by (N:=["limits","starts","best","moved","number","bound","ahead","walk","passed"]) (names:=(aj st_settle).names) rfl rfl rfl (by decide+kernel)) (bF (ad 1)) (fun _ _ _ _ _=>⟨(ai 0 (show List.Nodup (["event"]:List Str)by decide+kernel)),bR,(bu (ae (ad 0) (ae (bu (ae ag (ae (cJ af) af))) af)))⟩))));refine @ak _ _ _ _ _ ?_ ?_;(focus exact(aE eV (ai 3 sc_settle.nd)));refine @ak _ _ _ _ _ ?_ ?_;(focus exact(zqs_while FU (cK (ad 3)) (ak (aE eV (ai 3 sc_settle.nd)) (ao (bD rfl (fz B.b_enumerate (ae (ad 0) af)) (d6 rfl (aN (ai 4 sc_settle.nd) (aN (ai 5 sc_settle.nd) df))) (by(refine @ak _ _ _ _ _ ?_ ?_;(focus exact(aE (zq_ln 2 (zq_dget (hu1 hr) (ad 2) (aF (ad 5) ag))) (ai 6 sc_settle.nd)));refine @ak _ _ _ _ _ ?_ ?_;(focus exact(bJ (zqt_w (gc (aZ ot_is (ad 6) bv) (ff (cX (zqt_ln 2 (cK (aV c_is_better hr (ae (ad 2) (ae (ad 5) (ae (ad 6) af)))))))))) (ao zqs_ct) bj));refine @ak _ _ _ _ _ ?_ ?_;(focus exact(aE (ar aH (aF (ad 6) ag) (cJ (ae (ad 4) af))) (ai 7 sc_settle.nd)));refine @ak _ _ _ _ _ ?_ ?_;(focus exact(zqs_lc 8 (N':=["step","limits"]) (src:=[none,some 0]) rfl (LcScope.by (N:=["limits","starts","best","moved","number","bound","ahead","walk","passed"]) (names:=(aj st_settle).names) rfl rfl rfl (by decide+kernel)) (bF (ad 7)) (fun _ _ _ _ _=>⟨(ai 0 (show List.Nodup (["step","limits"]:List Str)by decide+kernel)),bR,(aF (aF (ad 1) (ad 0)) ag)⟩) sc_settle.nd));refine @ak _ _ _ _ _ ?_ ?_;(focus exact(bJ (aZ (ot_in (hu61 hr)) (aF (ad 5) ag) (ad 8)) (ao (ay (bu (ae bv (ae (dE (ad 7) (dC (zq_lindex (hu61 hr) (ad 8) (aF (ad 5) ag))) dD) af))))) bj));refine @ak _ _ _ _ _ ?_ ?_;(focus exact(zqs_put 2 (hu1 hr) (aF (ad 5) ag) (bu (ae (ar aH (aF (ad 6) ag) (aF (ad 5) ag)) (ae (ad 7) af)))));exact ao (aE eV (ai 3 sc_settle.nd)))))))));exact ao (gp 2 (ay (bu (ae (ad 2) (ae bv af)))))))
abbrev st_is_long:Stmt:=top 17
theorem sc_is_long:aB ["thing","least","most"] ["thing","least","most"] (aj st_is_long):=⟨rfl,rfl,rfl,by decide+kernel,rfl,by decide+kernel,by decide+kernel⟩
theorem ok_is_long (F:gn K mg "is_long" st_is_long ["thing","least","most"])(B:Bl mg):Cl P w K mg base 1 "is_long" 3 aJ:=
 bq F sc_is_long rfl fun f cdv A outer s H E hr xe=>(ao (ay (da (zq_is B.b_isinstance B.b_tuple dj (ad 0)) (dw (zq_chain ot_le ot_le (ad 1) (cE cC B.b_len boot_len (ae (ad 0) af)) (ad 2))))))
abbrev st_is_whole:Stmt:=top 15
theorem sc_is_whole:aB ["thing"] ["thing"] (aj st_is_whole):=⟨rfl,rfl,rfl,by decide+kernel,rfl,by decide+kernel,by decide+kernel⟩
theorem ok_is_whole (F:gn K mg "is_whole" st_is_whole ["thing"])(B:Bl mg):Cl P w K mg base 1 "is_whole" 1 gC:=
 bq F sc_is_whole rfl fun f cdv A outer s H E hr xe=>(ao (ay (da (zq_is B.b_isinstance B.b_int boot_ty_int (ad 0)) (dw (zq_not (zq_is B.b_isinstance B.b_bool boot_ty_bool (ad 0)))))))
abbrev st_is_within:Stmt:=top 16
theorem sc_is_within:aB ["thing","least","most"] ["thing","least","most"] (aj st_is_within):=⟨rfl,rfl,rfl,by decide+kernel,rfl,by decide+kernel,by decide+kernel⟩
theorem ok_is_within (F:gn K mg "is_within" st_is_within ["thing","least","most"])(c_is_whole:Cl P w K mg base 1 "is_whole" 1 gC):Cl P w K mg base 2 "is_within" 3 aX:=
 bq F sc_is_within rfl fun f cdv A outer s H E hr xe=>(ao (ay (da (aV c_is_whole hr (ae (ad 0) af)) (dw (zq_chain ot_le ot_le (ad 1) (ad 0) (ad 2))))))
abbrev st_is_pace:Stmt:=top 20
theorem sc_is_pace:aB ["slow","fast"] ["slow","fast"] (aj st_is_pace):=⟨rfl,rfl,rfl,by decide+kernel,rfl,by decide+kernel,by decide+kernel⟩
theorem ok_is_pace (F:gn K mg "is_pace" st_is_pace ["slow","fast"])(c_is_within:Cl P w K mg base 2 "is_within" 3 aX)(C:Cs mg):Cl P w K mg base 3 "is_pace" 2 fq:=
 bq F sc_is_pace rfl fun f cdv A outer s H E hr xe=>(ao (ay (da (aV c_is_within hr (ae (ad 0) (ae ag (ae (zq_k C.SLOWEST) af)))) (dw (aV c_is_within hr (ae (ad 1) (ae (ad 0) (ae (zq_k C.SLOWEST) af))))))))
abbrev st_rises:Stmt:=top 18
theorem sc_rises:aB ["numbers"] ["numbers"] (aj st_rises):=⟨rfl,rfl,rfl,by decide+kernel,rfl,by decide+kernel,by decide+kernel⟩
theorem ok_rises (F:gn K mg "rises" st_rises ["numbers"])(B:Bl mg):Cl P w K mg base 1 "rises" 1 m_rises:=
 bq F sc_rises rfl fun f cdv A outer s H E hr xe=>(ao (ay (cE (ct_all rfl) B.b_all boot_all (ae (fU (N':=["k","numbers"]) (src:=[none,some 0]) rfl (LcScope.by (N:=["numbers"]) (names:=(aj st_rises).names) rfl rfl rfl (by decide+kernel)) (cv B.b_range (ae (ar dJ (cE cC B.b_len boot_len (ae (ad 0) af)) ag) af)) (fun _ _ _ _ _=>⟨(ai 0 (show List.Nodup (["k","numbers"]:List Str)by decide+kernel)),bR,(dF ot_lt (aF (ad 1) (ad 0)) (aF (ad 1) (ar aH (ad 0) ag)))⟩)) af))))
abbrev eO:Stmt:=top 19
theorem sc_are_readings:aB ["thing"] ["thing"] (aj eO):=⟨rfl,rfl,rfl,by decide+kernel,rfl,by decide+kernel,by decide+kernel⟩
theorem ok_are_readings (F:gn K mg "are_readings" eO ["thing"])(c_is_long:Cl P w K mg base 1 "is_long" 3 aJ)(c_rises:Cl P w K mg base 1 "rises" 1 m_rises)(c_is_within:Cl P w K mg base 2 "is_within" 3 aX)(B:Bl mg)(C:Cs mg):Cl P w K mg base 3 "are_readings" 1 bx:=
 bq F sc_are_readings rfl fun f cdv A outer s H E hr xe=>(ak (bJ (cX (cK (aV c_is_long hr (ae (ad 0) (ae ag (ae (zq_k C.MOST_READINGS) af)))))) (ao (ay eV)) bj) (ao (ay (da (cE (ct_all rfl) B.b_all boot_all (ae (fU (N':=["part"]) (src:=[none]) rfl (LcScope.by (N:=["thing"]) (names:=(aj eO).names) rfl rfl rfl (by decide+kernel)) (bF (ad 0)) (fun _ _ _ _ _=>⟨(ai 0 (show List.Nodup (["part"]:List Str)by decide+kernel)),bR,(aV c_is_within hr (ae (ad 0) (ae ag (ae (zq_k C.LAST_READING) af))))⟩)) af)) (dw (aV c_rises hr (ae (ad 0) af)))))))
abbrev st_is_clock:Stmt:=top 21
theorem sc_is_clock:aB ["thing"] ["thing"] (aj st_is_clock):=⟨rfl,rfl,rfl,by decide+kernel,rfl,by decide+kernel,by decide+kernel⟩
theorem ok_is_clock (F:gn K mg "is_clock" st_is_clock ["thing"])(c_is_long:Cl P w K mg base 1 "is_long" 3 aJ)(c_is_pace:Cl P w K mg base 3 "is_pace" 2 fq)(c_are_readings:Cl P w K mg base 3 "are_readings" 1 bx):Cl P w K mg base 4 "is_clock" 1 cQ:=
 bq F sc_is_clock rfl fun f cdv A outer s H E hr xe=>(ao (ay (da (aV c_is_long hr (ae (ad 0) (ae ag (ae ag af)))) (da (aV c_is_pace hr (ae (aF (ad 0) ag) (ae (aF (ad 0) ag) af))) (dw (aV c_are_readings hr (ae (aF (ad 0) ag) af)))))))
abbrev gd:Stmt:=top 22
theorem sc_are_clocks:aB ["thing"] ["thing"] (aj gd):=⟨rfl,rfl,rfl,by decide+kernel,rfl,by decide+kernel,by decide+kernel⟩
theorem ok_are_clocks (F:gn K mg "are_clocks" gd ["thing"])(c_is_long:Cl P w K mg base 1 "is_long" 3 aJ)(c_is_clock:Cl P w K mg base 4 "is_clock" 1 cQ)(B:Bl mg)(C:Cs mg):Cl P w K mg base 5 "are_clocks" 1 cZ:=
 bq F sc_are_clocks rfl fun f cdv A outer s H E hr xe=>(ao (ay (da (aV c_is_long hr (ae (ad 0) (ae ag (ae (zq_k C.MOST_CLOCKS) af)))) (dw (cE (ct_all rfl) B.b_all boot_all (ae (fU (N':=["part"]) (src:=[none]) rfl (LcScope.by (N:=["thing"]) (names:=(aj gd).names) rfl rfl rfl (by decide+kernel)) (bF (ad 0)) (fun _ _ _ _ _=>⟨(ai 0 (show List.Nodup (["part"]:List Str)by decide+kernel)),bR,(aV c_is_clock hr (ae (ad 0) af))⟩)) af))))))
abbrev st_is_event:Stmt:=top 23
theorem sc_is_event:aB ["clocks","thing"] ["clocks","thing"] (aj st_is_event):=⟨rfl,rfl,rfl,by decide+kernel,rfl,by decide+kernel,by decide+kernel⟩
theorem ok_is_event (F:gn K mg "is_event" st_is_event ["clocks","thing"])(c_is_within:Cl P w K mg base 2 "is_within" 3 aX)(c_is_long:Cl P w K mg base 1 "is_long" 3 aJ)(B:Bl mg):Cl P w K mg base 3 "is_event" 2 fL:=
 bq F sc_is_event rfl fun f cdv A outer s H E hr xe=>(ak (bJ (zqt_w (gc (cX (cK (aV c_is_long hr (ae (ad 1) (ae ag (ae ag af)))))) (ff (cX (cK (aV c_is_within hr (ae (aF (ad 1) ag) (ae ag (ae (ar dJ (cE cC B.b_len boot_len (ae (ad 0) af)) ag) af))))))))) (ao (ay eV)) bj) (ao (ay (aV c_is_within hr (ae (aF (ad 1) ag) (ae ag (ae (ar dJ (cE cC B.b_len boot_len (ae (aF (aF (ad 0) (aF (ad 1) ag)) ag) af)) ag) af)))))))
abbrev st_is_delay:Stmt:=top 24
theorem sc_is_delay:aB ["least","most"] ["least","most"] (aj st_is_delay):=⟨rfl,rfl,rfl,by decide+kernel,rfl,by decide+kernel,by decide+kernel⟩
theorem ok_is_delay (F:gn K mg "is_delay" st_is_delay ["least","most"])(c_is_within:Cl P w K mg base 2 "is_within" 3 aX)(C:Cs mg):Cl P w K mg base 3 "is_delay" 2 gD:=
 bq F sc_is_delay rfl fun f cdv A outer s H E hr xe=>(ao (ay (da (aV c_is_within hr (ae (ad 0) (ae ag (ae (zq_k C.LONGEST) af)))) (dw (zq_or (dF ot_is (ad 1) bv) (dw (aV c_is_within hr (ae (ad 1) (ae (ad 0) (ae (zq_k C.LONGEST) af))))))))))
abbrev st_is_letter:Stmt:=top 25
theorem sc_is_letter:aB ["clocks","thing"] ["clocks","thing"] (aj st_is_letter):=⟨rfl,rfl,rfl,by decide+kernel,rfl,by decide+kernel,by decide+kernel⟩
theorem ok_is_letter (F:gn K mg "is_letter" st_is_letter ["clocks","thing"])(c_is_event:Cl P w K mg base 3 "is_event" 2 fL)(c_is_long:Cl P w K mg base 1 "is_long" 3 aJ)(c_is_delay:Cl P w K mg base 3 "is_delay" 2 gD):Cl P w K mg base 4 "is_letter" 2 ez:=
 bq F sc_is_letter rfl fun f cdv A outer s H E hr xe=>(ak (bJ (zqt_w (gc (cX (cK (aV c_is_long hr (ae (ad 1) (ae ag (ae ag af)))))) (ff (cX (cK (aV c_is_delay hr (ae (aF (ad 1) ag) (ae (aF (ad 1) ag) af)))))))) (ao (ay eV)) bj) (ao (ay (da (aV c_is_event hr (ae (ad 0) (ae (aF (ad 1) ag) af))) (da (aV c_is_event hr (ae (ad 0) (ae (aF (ad 1) ag) af))) (dw (dF (ot_ne (hu60 hr)) (aF (ad 1) ag) (aF (ad 1) ag))))))))
abbrev fG:Stmt:=top 26
theorem sc_are_letters:aB ["clocks","thing"] ["clocks","thing"] (aj fG):=⟨rfl,rfl,rfl,by decide+kernel,rfl,by decide+kernel,by decide+kernel⟩
theorem ok_are_letters (F:gn K mg "are_letters" fG ["clocks","thing"])(c_is_long:Cl P w K mg base 1 "is_long" 3 aJ)(c_is_letter:Cl P w K mg base 4 "is_letter" 2 ez)(B:Bl mg)(C:Cs mg):Cl P w K mg base 5 "are_letters" 2 cH:=
 bq F sc_are_letters rfl fun f cdv A outer s H E hr xe=>(ao (ay (da (aV c_is_long hr (ae (ad 1) (ae ag (ae (zq_k C.MOST_LETTERS) af)))) (dw (cE (ct_all rfl) B.b_all boot_all (ae (fU (N':=["part","clocks"]) (src:=[none,some 0]) rfl (LcScope.by (N:=["clocks","thing"]) (names:=(aj fG).names) rfl rfl rfl (by decide+kernel)) (bF (ad 1)) (fun _ _ _ _ _=>⟨(ai 0 (show List.Nodup (["part","clocks"]:List Str)by decide+kernel)),bR,(aV c_is_letter hr (ae (ad 1) (ae (ad 0) af)))⟩)) af))))))
abbrev st_is_record:Stmt:=top 27
theorem sc_is_record:aB ["thing"] ["thing"] (aj st_is_record):=⟨rfl,rfl,rfl,by decide+kernel,rfl,by decide+kernel,by decide+kernel⟩
theorem ok_is_record (F:gn K mg "is_record" st_is_record ["thing"])(c_is_long:Cl P w K mg base 1 "is_long" 3 aJ)(c_are_clocks:Cl P w K mg base 5 "are_clocks" 1 cZ)(c_are_letters:Cl P w K mg base 5 "are_letters" 2 cH):Cl P w K mg base 6 "is_record" 1 fX:=
 bq F sc_is_record rfl fun f cdv A outer s H E hr xe=>(ao (ay (da (aV c_is_long hr (ae (ad 0) (ae ag (ae ag af)))) (da (aV c_are_clocks hr (ae (aF (ad 0) ag) af)) (dw (aV c_are_letters hr (ae (aF (ad 0) ag) (ae (aF (ad 0) ag) af))))))))
abbrev st_need_record:Stmt:=top 28
theorem sc_need_record:aB ["thing"] ["thing"] (aj st_need_record):=⟨rfl,rfl,rfl,by decide+kernel,rfl,by decide+kernel,by decide+kernel⟩
theorem ok_need_record (F:gn K mg "need_record" st_need_record ["thing"])(c_is_record:Cl P w K mg base 6 "is_record" 1 fX){C_NoRecord C_NoEvent C_NoNumber C_NoWorld C_Barred C_Nothing C_ClockError:Addr}(S:Xs K mg C_NoRecord C_NoEvent C_NoNumber C_NoWorld C_Barred C_Nothing C_ClockError):Cl P w K mg base 7 "need_record" 1 b9:=
 bq F sc_need_record rfl fun f cdv A outer s H E hr xe=>(ao (bJ (cX (cK (aV c_is_record hr (ae (ad 0) af)))) (ao (zqs_raise S.o_NoRecord S.m_NoRecord)) bj))
abbrev fE:Stmt:=top 31
theorem sc_bounds_of_clock:aB ["number","clock","readings","told","k","first","second","steps"] ["number","clock"] (aj fE):=⟨rfl,rfl,rfl,by decide+kernel,rfl,by decide+kernel,by decide+kernel⟩
theorem ok_bounds_of_clock (F:gn K mg "bounds_of_clock" fE ["number","clock"])(B:Bl mg):Cl P w K mg base 1 "bounds_of_clock" 2 bS:=
 bq F sc_bounds_of_clock rfl fun f cdv A outer s H E hr xe=>(by(refine @ak _ _ _ _ _ ?_ ?_;(focus exact(aE (aF (ad 1) ag) (ai 2 sc_bounds_of_clock.nd)));refine @ak _ _ _ _ _ ?_ ?_;(focus exact(zqs_newL 3 sc_bounds_of_clock.nd af));refine @ak _ _ _ _ _ ?_ ?_;(focus exact(bD rfl (cv B.b_range (ae (ar dJ (cE cC B.b_len boot_len (ae (ad 2) af)) ag) af)) (ai 4 sc_bounds_of_clock.nd) (by(refine @ak _ _ _ _ _ ?_ ?_;(focus exact(aE (bu (ae (ad 0) (ae (ad 4) af))) (ai 5 sc_bounds_of_clock.nd)));refine @ak _ _ _ _ _ ?_ ?_;(focus exact(aE (bu (ae (ad 0) (ae (ar aH (ad 4) ag) af))) (ai 6 sc_bounds_of_clock.nd)));refine @ak _ _ _ _ _ ?_ ?_;(focus exact(aE (ar dJ (aF (ad 2) (ar aH (ad 4) ag)) (aF (ad 2) (ad 4))) (ai 7 sc_bounds_of_clock.nd)));refine @ak _ _ _ _ _ ?_ ?_;(focus exact(gq 3 (bu (ae (ad 5) (ae (ad 6) (ae (ar cL (ad 7) (aF (ad 1) ag)) af))))));exact ao (gq 3 (bu (ae (ad 6) (ae (ad 5) (ae (ar cL (zq_neg (ad 7)) (aF (ad 1) ag)) af)))))))));exact ao (gp 3 (ay (ad 3)))))
abbrev eX:Stmt:=top 32
theorem sc_bounds_of_letter:aB ["letter","told"] ["letter"] (aj eX):=⟨rfl,rfl,rfl,by decide+kernel,rfl,by decide+kernel,by decide+kernel⟩
theorem ok_bounds_of_letter (F:gn K mg "bounds_of_letter" eX ["letter"]):Cl P w K mg base 1 "bounds_of_letter" 1 bP:=
 bq F sc_bounds_of_letter rfl fun f cdv A outer s H E hr xe=>(by(refine @ak _ _ _ _ _ ?_ ?_;(focus exact(zqs_newL 1 sc_bounds_of_letter.nd (ae (bu (ae (aF (ad 0) ag) (ae (aF (ad 0) ag) (ae (zq_neg (aF (ad 0) ag)) af)))) af)));refine @ak _ _ _ _ _ ?_ ?_;(focus exact(bJ (aZ dL (aF (ad 0) ag) bv) (ao (gq 1 (bu (ae (aF (ad 0) ag) (ae (aF (ad 0) ag) (ae (aF (ad 0) ag) af)))))) bj));exact ao (gp 1 (ay (ad 1)))))
abbrev st_bounds:Stmt:=top 33
theorem sc_bounds:aB ["record","told","number","clock","letter"] ["record"] (aj st_bounds):=⟨rfl,rfl,rfl,by decide+kernel,rfl,by decide+kernel,by decide+kernel⟩
theorem ok_bounds (F:gn K mg "bounds" st_bounds ["record"])(c_need_record:Cl P w K mg base 7 "need_record" 1 b9)(c_bounds_of_clock:Cl P w K mg base 1 "bounds_of_clock" 2 bS)(c_bounds_of_letter:Cl P w K mg base 1 "bounds_of_letter" 1 bP)(B:Bl mg):Cl P w K mg base 8 "bounds" 1 di:=
 bq F sc_bounds rfl fun f cdv A outer s H E hr xe=>(by(refine @ak _ _ _ _ _ ?_ ?_;(focus exact(zqs_expr (aV c_need_record hr (ae (ad 0) af))));refine @ak _ _ _ _ _ ?_ ?_;(focus exact(zqs_newL 1 sc_bounds.nd af));refine @ak _ _ _ _ _ ?_ ?_;(focus exact(bD rfl (fz B.b_enumerate (ae (aF (ad 0) ag) af)) (d6 rfl (aN (ai 2 sc_bounds.nd) (aN (ai 3 sc_bounds.nd) df))) (ao (zqs_ext 1 (aV c_bounds_of_clock hr (ae (ad 2) (ae (ad 3) af)))))));refine @ak _ _ _ _ _ ?_ ?_;(focus exact(bD rfl (bF (aF (ad 0) ag)) (ai 4 sc_bounds.nd) (ao (zqs_ext 1 (aV c_bounds_of_letter hr (ae (ad 4) af))))));exact ao (gp 1 (ay (ad 1)))))
abbrev st_events:Stmt:=top 29
theorem sc_events:aB ["record","told","number","clock"] ["record"] (aj st_events):=⟨rfl,rfl,rfl,by decide+kernel,rfl,by decide+kernel,by decide+kernel⟩
theorem ok_events (F:gn K mg "events" st_events ["record"])(c_need_record:Cl P w K mg base 7 "need_record" 1 b9)(B:Bl mg):Cl P w K mg base 8 "events" 1 fM:=
 bq F sc_events rfl fun f cdv A outer s H E hr xe=>(by(refine @ak _ _ _ _ _ ?_ ?_;(focus exact(zqs_expr (aV c_need_record hr (ae (ad 0) af))));refine @ak _ _ _ _ _ ?_ ?_;(focus exact(zqs_newL 1 sc_events.nd af));refine @ak _ _ _ _ _ ?_ ?_;(focus exact(bD rfl (fz B.b_enumerate (ae (aF (ad 0) ag) af)) (d6 rfl (aN (ai 2 sc_events.nd) (aN (ai 3 sc_events.nd) df))) (ao (zqs_ext 1 (fU (N':=["k","number"]) (src:=[none,some 2]) rfl (LcScope.by (N:=["record","told","number","clock"]) (names:=(aj st_events).names) rfl rfl rfl (by decide+kernel)) (cv B.b_range (ae (cE cC B.b_len boot_len (ae (aF (ad 3) ag) af)) af)) (fun _ _ _ _ _=>⟨(ai 0 (show List.Nodup (["k","number"]:List Str)by decide+kernel)),bR,(bu (ae (ad 1) (ae (ad 0) af)))⟩))))));exact ao (gp 1 (ay (ad 1)))))
abbrev st_barring:Stmt:=top 45
theorem sc_barring:aB ["record"] ["record"] (aj st_barring):=⟨rfl,rfl,rfl,by decide+kernel,rfl,by decide+kernel,by decide+kernel⟩
theorem ok_barring (F:gn K mg "barring" st_barring ["record"])(c_settle:Cl P w K mg base 2 "settle" 2 dg)(c_bounds:Cl P w K mg base 8 "bounds" 1 di)(c_events:Cl P w K mg base 8 "events" 1 fM):Cl P w K mg base 9 "barring" 1 ft:=
 bq F sc_barring rfl fun f cdv A outer s H E hr xe=>(ao (ay (aF (aV c_settle hr (ae (aV c_bounds hr (ae (ad 0) af)) (ae (aV c_events hr (ae (ad 0) af)) af))) ag)))
abbrev fF:Stmt:=top 35
theorem sc_are_numbers:aB ["limits","thing"] ["limits","thing"] (aj fF):=⟨rfl,rfl,rfl,by decide+kernel,rfl,by decide+kernel,by decide+kernel⟩
theorem ok_are_numbers (F:gn K mg "are_numbers" fF ["limits","thing"])(c_is_within:Cl P w K mg base 2 "is_within" 3 aX)(B:Bl mg):Cl P w K mg base 3 "are_numbers" 2 ca:=
 bq F sc_are_numbers rfl fun f cdv A outer s H E hr xe=>(ao (ay (da (zq_is B.b_isinstance B.b_list boot_ty_list (ad 1)) (dw (cE (ct_all rfl) B.b_all boot_all (ae (fU (N':=["part","limits"]) (src:=[none,some 0]) rfl (LcScope.by (N:=["limits","thing"]) (names:=(aj fF).names) rfl rfl rfl (by decide+kernel)) (bF (ad 1)) (fun _ _ _ _ _=>⟨(ai 0 (show List.Nodup (["part","limits"]:List Str)by decide+kernel)),bR,(aV c_is_within hr (ae (ad 0) (ae ag (ae (ar dJ (cE cC B.b_len boot_len (ae (ad 1) af)) ag) af))))⟩)) af))))))
abbrev st_leads:Stmt:=top 37
theorem sc_leads:aB ["limits","one","other","thing","place","number"] ["limits","one","other","thing"] (aj st_leads):=⟨rfl,rfl,rfl,by decide+kernel,rfl,by decide+kernel,by decide+kernel⟩
theorem ok_leads (F:gn K mg "leads" st_leads ["limits","one","other","thing"])(c_are_numbers:Cl P w K mg base 3 "are_numbers" 2 ca):Cl P w K mg base 4 "leads" 4 m_leads:=
 bq F sc_leads rfl fun f cdv A outer s H E hr xe=>(by(refine @ak _ _ _ _ _ ?_ ?_;(focus exact(bJ (cX (cK (aV c_are_numbers hr (ae (ad 0) (ae (ad 3) af))))) (ao (ay eV)) bj));refine @ak _ _ _ _ _ ?_ ?_;(focus exact(aE (ad 1) (ai 4 sc_leads.nd)));refine @ak _ _ _ _ _ ?_ ?_;(focus exact(bD rfl (bF (ad 3)) (ai 5 sc_leads.nd) (ak (bJ (aZ (ot_ne (hu60 hr)) (aF (aF (ad 0) (ad 5)) ag) (ad 4)) (ao (ay eV)) bj) (ao (aE (aF (aF (ad 0) (ad 5)) ag) (ai 4 sc_leads.nd))))));exact ao (ay (dF (ot_eq (hu60 hr)) (ad 4) (ad 2)))))
abbrev st_leads_round:Stmt:=top 38
theorem sc_leads_round:aB ["limits","thing","start"] ["limits","thing"] (aj st_leads_round):=⟨rfl,rfl,rfl,by decide+kernel,rfl,by decide+kernel,by decide+kernel⟩
theorem ok_leads_round (F:gn K mg "leads_round" st_leads_round ["limits","thing"])(c_leads:Cl P w K mg base 4 "leads" 4 m_leads)(c_are_numbers:Cl P w K mg base 3 "are_numbers" 2 ca):Cl P w K mg base 5 "leads_round" 2 dh:=
 bq F sc_leads_round rfl fun f cdv A outer s H E hr xe=>(by(refine @ak _ _ _ _ _ ?_ ?_;(focus exact(bJ (zqt_w (gc (cX (cK (aV c_are_numbers hr (ae (ad 0) (ae (ad 1) af))))) (ff (aZ (ot_eq (hu60 hr)) (ad 1) (cJ af))))) (ao (ay eV)) bj));refine @ak _ _ _ _ _ ?_ ?_;(focus exact(aE (aF (aF (ad 0) (aF (ad 1) ag)) ag) (ai 2 sc_leads_round.nd)));exact ao (ay (aV c_leads hr (ae (ad 0) (ae (ad 2) (ae (ad 2) (ae (ad 1) af))))))))
abbrev st_sum_of:Stmt:=top 36
theorem sc_sum_of:aB ["limits","walk"] ["limits","walk"] (aj st_sum_of):=⟨rfl,rfl,rfl,by decide+kernel,rfl,by decide+kernel,by decide+kernel⟩
theorem ok_sum_of (F:gn K mg "sum_of" st_sum_of ["limits","walk"])(B:Bl mg):Cl P w K mg base 1 "sum_of" 2 m_sum_of:=
 bq F sc_sum_of rfl fun f cdv A outer s H E hr xe=>(ao (ay (cE (ct_sum rfl) B.b_sum boot_sum (ae (fU (N':=["number","limits"]) (src:=[none,some 0]) rfl (LcScope.by (N:=["limits","walk"]) (names:=(aj st_sum_of).names) rfl rfl rfl (by decide+kernel)) (bF (ad 1)) (fun _ _ _ _ _=>⟨(ai 0 (show List.Nodup (["number","limits"]:List Str)by decide+kernel)),bR,(aF (aF (ad 1) (ad 0)) ag)⟩)) af))))
abbrev st_bars:Stmt:=top 46
theorem sc_bars:aB ["record","thing","limits"] ["record","thing"] (aj st_bars):=⟨rfl,rfl,rfl,by decide+kernel,rfl,by decide+kernel,by decide+kernel⟩
theorem ok_bars (F:gn K mg "bars" st_bars ["record","thing"])(c_bounds:Cl P w K mg base 8 "bounds" 1 di)(c_leads_round:Cl P w K mg base 5 "leads_round" 2 dh)(c_sum_of:Cl P w K mg base 1 "sum_of" 2 m_sum_of):Cl P w K mg base 9 "bars" 2 m_bars:=
 bq F sc_bars rfl fun f cdv A outer s H E hr xe=>(ak (aE (aV c_bounds hr (ae (ad 0) af)) (ai 2 sc_bars.nd)) (ao (ay (da (aV c_leads_round hr (ae (ad 2) (ae (ad 1) af))) (dw (dF ot_lt (aV c_sum_of hr (ae (ad 2) (ae (ad 1) af))) ag))))))
abbrev st__law_told:Stmt:=top 57
theorem sc__law_told:aB ["_law_ask","_law_record_here","_law_thing","_law_e"] ["_law_ask","_law_record_here","_law_thing"] (aj st__law_told):=⟨rfl,rfl,rfl,by decide+kernel,rfl,by decide+kernel,by decide+kernel⟩
theorem ok__law_told (F:gn K mg "_law_told" st__law_told ["_law_ask","_law_record_here","_law_thing"])(c_barring:Cl P w K mg base 9 "barring" 1 ft)(c_bars:Cl P w K mg base 9 "bars" 2 m_bars)(B:Bl mg){C_NoRecord C_NoEvent C_NoNumber C_NoWorld C_Barred C_Nothing C_ClockError:Addr}(S:Xs K mg C_NoRecord C_NoEvent C_NoNumber C_NoWorld C_Barred C_Nothing C_ClockError){f_r:Addr}{fd_r:FuncData}(Fn__law_refused:Fn K mg "_law_refused" bH ["_law_e"] f_r fd_r):Cl P w K mg base 10 "_law_told" 3 bz:=
 bq F sc__law_told rfl fun f cdv A outer s H E hr xe=>(ao (zqs_try 3 sc__law_told.nd S.m_ClockError S.o_ClockError (fun _ _=>(ao (ay (zq_if (aZ (ot_eq (hu60 hr)) (ad 0) ag) (aV c_barring hr (ae (ad 1) af)) (aV c_bars hr (ae (ad 1) (ae (ad 2) af))))))) (suite_ok rfl (Or.inl rfl) Fn__law_refused S B.b_isinstance B.b_ValueError (room3 hr)) (hcl:=fun _ _ z=>by cases z)))
abbrev dH:Stmt:=top 42
theorem sc_greatest_world:aB ["record","limits","places","best"] ["record","limits"] (aj dH):=⟨rfl,rfl,rfl,by decide+kernel,rfl,by decide+kernel,by decide+kernel⟩
theorem ok_greatest_world (F:gn K mg "greatest_world" dH ["record","limits"])(c_events:Cl P w K mg base 8 "events" 1 fM)(c_settle:Cl P w K mg base 2 "settle" 2 dg)(B:Bl mg):Cl P w K mg base 9 "greatest_world" 2 cY:=
 bq F sc_greatest_world rfl fun f cdv A outer s H E hr xe=>(by(refine @ak _ _ _ _ _ ?_ ?_;(focus exact(aE (aV c_events hr (ae (ad 0) af)) (ai 2 sc_greatest_world.nd)));refine @ak _ _ _ _ _ ?_ ?_;(focus exact(aE (aF (aV c_settle hr (ae (ad 1) (ae (ad 2) af))) ag) (ai 3 sc_greatest_world.nd)));refine @ak _ _ _ _ _ ?_ ?_;(focus exact(bJ (aZ ot_is (ad 3) bv) (ao (ay bv)) bj));exact ao (ay (zq_cT ct_tuple B.b_tuple dj (ae (fU (N':=["event","best"]) (src:=[none,some 3]) rfl (LcScope.by (N:=["record","limits","places","best"]) (names:=(aj dH).names) rfl rfl rfl (by decide+kernel)) (bF (ad 2)) (fun _ _ _ _ _=>⟨(ai 0 (show List.Nodup (["event","best"]:List Str)by decide+kernel)),bR,(aF (cw (hu1 hr) (ad 1) (ad 0)) ag)⟩)) af)))))
abbrev st_world:Stmt:=top 43
theorem sc_world:aB ["record"] ["record"] (aj st_world):=⟨rfl,rfl,rfl,by decide+kernel,rfl,by decide+kernel,by decide+kernel⟩
theorem ok_world (F:gn K mg "world" st_world ["record"])(c_greatest_world:Cl P w K mg base 9 "greatest_world" 2 cY)(c_bounds:Cl P w K mg base 8 "bounds" 1 di):Cl P w K mg base 10 "world" 1 m_world:=
 bq F sc_world rfl fun f cdv A outer s H E hr xe=>(ao (ay (aV c_greatest_world hr (ae (ad 0) (ae (aV c_bounds hr (ae (ad 0) af)) af)))))
abbrev st_has_world:Stmt:=top 44
theorem sc_has_world:aB ["record"] ["record"] (aj st_has_world):=⟨rfl,rfl,rfl,by decide+kernel,rfl,by decide+kernel,by decide+kernel⟩
theorem ok_has_world (F:gn K mg "has_world" st_has_world ["record"])(c_world:Cl P w K mg base 10 "world" 1 m_world):Cl P w K mg base 11 "has_world" 1 dA:=
 bq F sc_has_world rfl fun f cdv A outer s H E hr xe=>(ao (ay (dF dL (aV c_world hr (ae (ad 0) af)) bv)))
abbrev st__law_bars:Stmt:=top 58
theorem sc__law_bars:aB ["_law_row","_law_thing","_law_whole","_law_at","_law_number"] ["_law_row","_law_thing"] (aj st__law_bars):=⟨rfl,rfl,rfl,by decide+kernel,rfl,by decide+kernel,by decide+kernel⟩
theorem ok__law_bars (F:gn K mg "_law_bars" st__law_bars ["_law_row","_law_thing"])(B:Bl mg):Cl P w K mg base 1 "_law_bars" 2 dB:=
 bq F sc__law_bars rfl fun f cdv A outer s H E hr xe=>(by(refine @ak _ _ _ _ _ ?_ ?_;(focus exact(bJ (zqt_w (gc (cX (cK (zq_is B.b_isinstance B.b_list boot_ty_list (ad 1)))) (ff (aZ (ot_eq (hu60 hr)) (ad 1) (cJ af))))) (ao (ay eV)) bj));refine @ak _ _ _ _ _ ?_ ?_;(focus exact(aE ag (ai 2 sc__law_bars.nd)));refine @ak _ _ _ _ _ ?_ ?_;(focus exact(bD rfl (fz B.b_enumerate (ae (ad 1) af)) (d6 rfl (aN (ai 3 sc__law_bars.nd) (aN (ai 4 sc__law_bars.nd) df))) (ao (bJ (zqt_w (gc (cX (cK (zq_is B.b_isinstance B.b_int boot_ty_int (ad 4)))) (gc (cK (zq_is B.b_isinstance B.b_bool boot_ty_bool (ad 4))) (ff (cX (zqt_chain ot_le ot_lt ag (ad 4) (cE cC B.b_len boot_len (ae (ad 0) af)))))))) (ao (ay eV)) bj))));refine @ak _ _ _ _ _ ?_ ?_;(focus exact(bD rfl (fz B.b_enumerate (ae (ad 1) af)) (d6 rfl (aN (ai 3 sc__law_bars.nd) (aN (ai 4 sc__law_bars.nd) df))) (ak (bJ (aZ (ot_ne (hu60 hr)) (aF (aF (ad 0) (aF (ad 1) (ar dJ (ad 3) ag))) ag) (aF (aF (ad 0) (ad 4)) ag)) (ao (ay eV)) bj) (ao (aE (ar aH (ad 2) (aF (aF (ad 0) (ad 4)) ag)) (ai 2 sc__law_bars.nd))))));exact ao (ay (dF ot_lt (ad 2) ag))))
abbrev st_law:Stmt:=top 59
theorem sc_law:aB ["_law_script","_law_record_here","_law_row","_law_table_here","_law_told_here","_law_thing","_law_at","_law_odd","_law_things","_law_some"] ["_law_script"] (aj st_law):=⟨rfl,rfl,rfl,by decide+kernel,rfl,by decide+kernel,by decide+kernel⟩
theorem ok_law {f:Addr}{fd:FuncData}(Fn_law:Fn K mg "law" st_law ["_law_script"] f fd)(c__law_record:Cl P w K mg base 4 "_law_record" 3 d8)(c__law_bounds:Cl P w K mg base 1 "_law_bounds" 1 d9)(c__law_table:Cl P w K mg base 1 "_law_table" 2 fh)(c__law_told:Cl P w K mg base 10 "_law_told" 3 bz)(c__law_drawn:Cl P w K mg base 2 "_law_drawn" 3 aq)(c__law_events:Cl P w K mg base 1 "_law_events" 1 cb)(c_has_world:Cl P w K mg base 11 "has_world" 1 dA)(c__law_bars:Cl P w K mg base 1 "_law_bars" 2 dB)(B:Bl mg):FnB P w K mg base 12 f fd ["_law_script"] 1 m_law:=
 zfnb_ok Fn_law.fn sc_law rfl fun cdv A outer s H E hr xe=>(by(refine @ak _ _ _ _ _ ?_ ?_;(focus exact(aE (aV c__law_record hr (ae (ad 0) (ae ag (ae ag af)))) (ai 1 sc_law.nd)));refine @ak _ _ _ _ _ ?_ ?_;(focus exact(aE (aV c__law_bounds hr (ae (ad 1) af)) (ai 2 sc_law.nd)));refine @ak _ _ _ _ _ ?_ ?_;(focus exact(aE (aV c__law_table hr (ae (aV c__law_events hr (ae (aF (ad 1) ag) af)) (ae (ad 2) af))) (ai 3 sc_law.nd)));refine @ak _ _ _ _ _ ?_ ?_;(focus exact(aE (aV c__law_told hr (ae ag (ae (ad 1) (ae bv af)))) (ai 4 sc_law.nd)));refine @ak _ _ _ _ _ ?_ ?_;(focus exact(bJ (zqt_w (gc (aZ (ot_ne (hu60 hr)) (dF ot_is (ad 4) bv) (dF dL (ad 3) bv)) (ff (aZ (ot_ne (hu60 hr)) (aV c_has_world hr (ae (ad 1) af)) (dF dL (ad 3) bv))))) (ao (ay eV)) bj));refine @ak _ _ _ _ _ ?_ ?_;(focus exact(bJ (zqt_w (zqw_and (aZ dL (ad 4) bv) (zqw_and1 (cX (cK (aV c__law_bars hr (ae (ad 2) (ae (ad 4) af)))))))) (ao (ay eV)) bj));refine @ak _ _ _ _ _ ?_ ?_;(focus exact(aE (ad 4) (ai 5 sc_law.nd)));refine @ak _ _ _ _ _ ?_ ?_;(focus exact(bJ (aZ ot_is (ad 4) bv) (ao (aE (fU (N':=["_law_k","_law_script","_law_row"]) (src:=[none,some 0,some 2]) rfl (LcScope.by (N:=["_law_script","_law_record_here","_law_row","_law_table_here","_law_told_here","_law_thing","_law_at","_law_odd","_law_things","_law_some"]) (names:=(aj st_law).names) rfl rfl rfl (by decide+kernel)) (cv B.b_range (ae (aV c__law_drawn hr (ae (ad 0) (ae ag (ae ag af)))) af)) (fun _ _ _ _ _=>⟨(ai 0 (show List.Nodup (["_law_k","_law_script","_law_row"]:List Str)by decide+kernel)),bR,(aV c__law_drawn hr (ae (ad 1) (ae (ar aH ag (ad 0)) (ae (ar aH (cE cC B.b_len boot_len (ae (ad 2) af)) ag) af))))⟩)) (ai 5 sc_law.nd))) bj));refine @ak _ _ _ _ _ ?_ ?_;(focus exact(aE (aV c__law_drawn hr (ae (ad 0) (ae ag (ae (ar aH (cE cC B.b_len boot_len (ae (ad 5) af)) ag) af)))) (ai 6 sc_law.nd)));refine @ak _ _ _ _ _ ?_ ?_;(focus exact(aE (aF (cJ (ae (zq_neg ag) (ae (cE cC B.b_len boot_len (ae (ad 2) af)) (ae eV (ae bv (ae zq_str (ae ag (ae ag af)))))))) (aV c__law_drawn hr (ae (ad 0) (ae ag (ae ag af))))) (ai 7 sc_law.nd)));refine @ak _ _ _ _ _ ?_ ?_;(focus exact(aE (cJ (ae (ad 5) (ae (ar aH (dE (ad 5) dD (dC (ad 6))) (dE (ad 5) (dC (ar aH (ad 6) ag)) dD)) (ae (ar aH (dE (ad 5) dD (dC (ar aH (ad 6) ag))) (dE (ad 5) (dC (ad 6)) dD)) (ae (ar aH (ar aH (dE (ad 5) dD (dC (ad 6))) (cJ (ae (ad 7) af))) (dE (ad 5) (dC (ar aH (ad 6) ag)) dD)) af))))) (ai 8 sc_law.nd)));refine @ak _ _ _ _ _ ?_ ?_;(focus exact(aE (ar aH (ad 8) (cJ (ae (zq_rev (ad 5)) (ae (ar aH (dE (ad 5) (dC (ad 6)) dD) (dE (ad 5) dD (dC (ad 6)))) (ae (ar aH (ad 5) (ad 5)) (ae (cJ af) af)))))) (ai 8 sc_law.nd)));refine @ak _ _ _ _ _ ?_ ?_;(focus exact(aE (ar aH (ad 8) (cJ (ae (zq_cT ct_tuple B.b_tuple dj (ae (ad 5) af)) (ae bv (ae (cJ (ae ag af)) (ae (cJ (ae ag (ae ag af))) af)))))) (ai 8 sc_law.nd)));refine @ak _ _ _ _ _ ?_ ?_;(focus exact(bD rfl (bF (ad 8)) (ai 9 sc_law.nd) (ao (bJ (aZ (ot_ne (hu60 hr)) (aV c__law_told hr (ae ag (ae (ad 1) (ae (ad 9) af)))) (aV c__law_bars hr (ae (ad 2) (ae (ad 9) af)))) (ao (ay eV)) bj))));exact ao (ay (dF (ot_eq (hu60 hr)) (fU (N':=["_law_ask","_law_record_here","_law_thing"]) (src:=[none,some 1,some 5]) rfl (LcScope.by (N:=["_law_script","_law_record_here","_law_row","_law_table_here","_law_told_here","_law_thing","_law_at","_law_odd","_law_things","_law_some"]) (names:=(aj st_law).names) rfl rfl rfl (by decide+kernel)) (cv B.b_range (ae ag af)) (fun _ _ _ _ _=>⟨(ai 0 (show List.Nodup (["_law_ask","_law_record_here","_law_thing"]:List Str)by decide+kernel)),bR,(aV c__law_told hr (ae (ad 0) (ae (zq_rev (ad 1)) (ae (ad 2) af))))⟩)) (ar cL (cJ (ae (bu (ae zq_str (ae ag af))) af)) ag)))))
end
@[elab_as_elim] theorem e9 {α:Type} {p:List α->Prop} (h:∀ a0,p [a0]):∀ us:List α,us.length=1->p us
 | [a0],_=>h a0
@[elab_as_elim] theorem eZ {α:Type} {p:List α->Prop} (h:∀ a0 a1,p [a0,a1]):∀ us:List α,us.length=2->p us
 | [a0,a1],_=>h a0 a1
@[elab_as_elim] theorem len_3 {α:Type} {p:List α->Prop} (h:∀ a0 a1 a2,p [a0,a1,a2]):∀ us:List α,us.length=3->p us
 | [a0,a1,a2],_=>h a0 a1 a2
@[elab_as_elim] theorem len_4 {α:Type} {p:List α->Prop} (h:∀ a0 a1 a2 a3,p [a0,a1,a2,a3]):∀ us:List α,us.length=4->p us
 | [a0,a1,a2,a3],_=>h a0 a1 a2 a3
def asks:Asks:=⟨([("_law_cell",48),("_law_drawn",49),("_law_events",52),("_law_letter",51),("_law_clock",50),("_law_record",53),("_law_bounds",54),("_law_table",55),("is_better",40),("settle",39),("is_long",17),("is_whole",15),("is_within",16),("is_pace",20),("rises",18)]:List (Str×Nat))++([("are_readings",19),("is_clock",21),("are_clocks",22),("is_event",23),("is_delay",24),("is_letter",25),("are_letters",26),("is_record",27),("need_record",28),("bounds_of_clock",31),("bounds_of_letter",32),("bounds",33),("events",29),("barring",45),("are_numbers",35)]:List (Str×Nat))++([("leads",37),("leads_round",38),("sum_of",36),("bars",46),("_law_told",57),("greatest_world",42),("world",43),("has_world",44),("_law_bars",58),("law",59),("_law_refused",56)]:List (Str×Nat)),(["ValueError","all","bool","dict","enumerate","int","isinstance","len","list","range","sum","tuple"]:List Str),[("MOST_CLOCKS",4),("MOST_LETTERS",8),("MOST_READINGS",4),("LAST_READING",99),("SLOWEST",9),("LONGEST",999)],["ClockError","NoRecord","NoEvent","NoNumber","NoWorld","Barred","Nothing"]⟩
theorem all_ok {l:PySem.W.OpenLaw}{w:World}{K:PySem.W.Frag}{h:Heap}{mg:Str->Option Value}{fa:Addr}(X:K.In h)(e:obsK asks K=valK asks top)(G:h.Ns mainGlobals mg)(hfa:mg "law" =some (.ref fa)) :
  ∃fd:FuncData,(∀(s:Shared) (v:Value),BindsTo s fd ⟨[v],[]⟩ [("_law_script",v)])/\∀ base:Heap,K.In base->base.Ns mainGlobals mg->FnOk l.prog w K mg base CX0 12 fa fd ["_law_script"] (spP K 1 m_law):=by
 have B:Bl mg:=⟨eQ 0 X G e rfl,eQ 1 X G e rfl,eQ 2 X G e rfl,eQ 3 X G e rfl,eQ 4 X G e rfl,eQ 5 X G e rfl,eQ 6 X G e rfl,eQ 7 X G e rfl,eQ 8 X G e rfl,eQ 9 X G e rfl,eQ 10 X G e rfl,eQ 11 X G e rfl⟩
 have C:Cs mg:=⟨k_int 0 X G e rfl,k_int 1 X G e rfl,k_int 2 X G e rfl,k_int 3 X G e rfl,k_int 4 X G e rfl,k_int 5 X G e rfl⟩
 obtain⟨C_ClockError,ls,xD,xl,nd⟩:=okX_of (k_exc e)
 obtain⟨C_NoRecord,ls0,x_NoRecord,rfl,xl0⟩:=fy xl
 obtain⟨C_NoEvent,ls1,x_NoEvent,rfl,xl1⟩:=fy xl0
 obtain⟨C_NoNumber,ls2,x_NoNumber,rfl,xl2⟩:=fy xl1
 obtain⟨C_NoWorld,ls3,x_NoWorld,rfl,xl3⟩:=fy xl2
 obtain⟨C_Barred,ls4,x_Barred,rfl,xl4⟩:=fy xl3
 obtain⟨C_Nothing,ls5,x_Nothing,rfl,xl5⟩:=fy xl4
 cases allS_nil xl5
 have S:Xs K mg C_NoRecord C_NoEvent C_NoNumber C_NoWorld C_Barred C_Nothing C_ClockError:=⟨PySem.W.mg_of X G (ge x_NoRecord).1,PySem.W.mg_of X G (ge x_NoEvent).1,PySem.W.mg_of X G (ge x_NoNumber).1,PySem.W.mg_of X G (ge x_NoWorld).1,PySem.W.mg_of X G (ge x_Barred).1,PySem.W.mg_of X G (ge x_Nothing).1,PySem.W.mg_of X G (ge xD).1,ox1 x_NoRecord xD,ox1 x_NoEvent xD,ox1 x_NoNumber xD,ox1 x_NoWorld xD,ox1 x_Barred xD,ox1 x_Nothing xD,ox0 xD,nd⟩
 have eK:=cr (n:="_law_cell") (i:=48) (ps:=["_law_script","_law_k"]) 0 X G e rfl fun _ _ _ _ _ _ us hl=>eZ (fun _ _=>rfl) us hl
 have dR:=cr (n:="_law_drawn") (i:=49) (ps:=["_law_script","_law_k","_law_many"]) 1 X G e rfl fun _ _ _ _ _ _ us hl=>len_3 (fun _ _ _=>rfl) us hl
 have ej:=cr (n:="_law_events") (i:=52) (ps:=["_law_clocks"]) 2 X G e rfl fun _ _ _ _ _ _ us hl=>e9 (fun _=>rfl) us hl
 have cg:=cr (n:="_law_letter") (i:=51) (ps:=["_law_script","_law_at","_law_clocks"]) 3 X G e rfl fun _ _ _ _ _ _ us hl=>len_3 (fun _ _ _=>rfl) us hl
 have dS:=cr (n:="_law_clock") (i:=50) (ps:=["_law_script","_law_at"]) 4 X G e rfl fun _ _ _ _ _ _ us hl=>eZ (fun _ _=>rfl) us hl
 have dt:=cr (n:="_law_record") (i:=53) (ps:=["_law_script","_law_at","_law_most"]) 5 X G e rfl fun _ _ _ _ _ _ us hl=>len_3 (fun _ _ _=>rfl) us hl
 have du:=cr (n:="_law_bounds") (i:=54) (ps:=["_law_record_here"]) 6 X G e rfl fun _ _ _ _ _ _ us hl=>e9 (fun _=>rfl) us hl
 have dQ:=cr (n:="_law_table") (i:=55) (ps:=["_law_places","_law_row"]) 7 X G e rfl fun _ _ _ _ _ _ us hl=>eZ (fun _ _=>rfl) us hl
 have eJ:=cr (n:="is_better") (i:=40) (ps:=["best","bound","ahead"]) 8 X G e rfl fun _ _ _ _ _ _ us hl=>len_3 (fun _ _ _=>rfl) us hl
 have fQ:=cr (n:="settle") (i:=39) (ps:=["limits","starts"]) 9 X G e rfl fun _ _ _ _ _ _ us hl=>eZ (fun _ _=>rfl) us hl
 have F_is_long:=cr (n:="is_long") (i:=17) (ps:=["thing","least","most"]) 10 X G e rfl fun _ _ _ _ _ _ us hl=>len_3 (fun _ _ _=>rfl) us hl
 have F_is_whole:=cr (n:="is_whole") (i:=15) (ps:=["thing"]) 11 X G e rfl fun _ _ _ _ _ _ us hl=>e9 (fun _=>rfl) us hl
 have F_is_within:=cr (n:="is_within") (i:=16) (ps:=["thing","least","most"]) 12 X G e rfl fun _ _ _ _ _ _ us hl=>len_3 (fun _ _ _=>rfl) us hl
 have gm:=cr (n:="is_pace") (i:=20) (ps:=["slow","fast"]) 13 X G e rfl fun _ _ _ _ _ _ us hl=>eZ (fun _ _=>rfl) us hl
 have F_rises:=cr (n:="rises") (i:=18) (ps:=["numbers"]) 14 X G e rfl fun _ _ _ _ _ _ us hl=>e9 (fun _=>rfl) us hl
 have cp:=cr (n:="are_readings") (i:=19) (ps:=["thing"]) 15 X G e rfl fun _ _ _ _ _ _ us hl=>e9 (fun _=>rfl) us hl
 have dZ:=cr (n:="is_clock") (i:=21) (ps:=["thing"]) 16 X G e rfl fun _ _ _ _ _ _ us hl=>e9 (fun _=>rfl) us hl
 have dP:=cr (n:="are_clocks") (i:=22) (ps:=["thing"]) 17 X G e rfl fun _ _ _ _ _ _ us hl=>e9 (fun _=>rfl) us hl
 have F_is_event:=cr (n:="is_event") (i:=23) (ps:=["clocks","thing"]) 18 X G e rfl fun _ _ _ _ _ _ us hl=>eZ (fun _ _=>rfl) us hl
 have F_is_delay:=cr (n:="is_delay") (i:=24) (ps:=["least","most"]) 19 X G e rfl fun _ _ _ _ _ _ us hl=>eZ (fun _ _=>rfl) us hl
 have F_is_letter:=cr (n:="is_letter") (i:=25) (ps:=["clocks","thing"]) 20 X G e rfl fun _ _ _ _ _ _ us hl=>eZ (fun _ _=>rfl) us hl
 have dq:=cr (n:="are_letters") (i:=26) (ps:=["clocks","thing"]) 21 X G e rfl fun _ _ _ _ _ _ us hl=>eZ (fun _ _=>rfl) us hl
 have F_is_record:=cr (n:="is_record") (i:=27) (ps:=["thing"]) 22 X G e rfl fun _ _ _ _ _ _ us hl=>e9 (fun _=>rfl) us hl
 have cf:=cr (n:="need_record") (i:=28) (ps:=["thing"]) 23 X G e rfl fun _ _ _ _ _ _ us hl=>e9 (fun _=>rfl) us hl
 have b6:=cr (n:="bounds_of_clock") (i:=31) (ps:=["number","clock"]) 24 X G e rfl fun _ _ _ _ _ _ us hl=>eZ (fun _ _=>rfl) us hl
 have bQ:=cr (n:="bounds_of_letter") (i:=32) (ps:=["letter"]) 25 X G e rfl fun _ _ _ _ _ _ us hl=>e9 (fun _=>rfl) us hl
 have fR:=cr (n:="bounds") (i:=33) (ps:=["record"]) 26 X G e rfl fun _ _ _ _ _ _ us hl=>e9 (fun _=>rfl) us hl
 have F_events:=cr (n:="events") (i:=29) (ps:=["record"]) 27 X G e rfl fun _ _ _ _ _ _ us hl=>e9 (fun _=>rfl) us hl
 have F_barring:=cr (n:="barring") (i:=45) (ps:=["record"]) 28 X G e rfl fun _ _ _ _ _ _ us hl=>e9 (fun _=>rfl) us hl
 have dm:=cr (n:="are_numbers") (i:=35) (ps:=["limits","thing"]) 29 X G e rfl fun _ _ _ _ _ _ us hl=>eZ (fun _ _=>rfl) us hl
 have gJ:=cr (n:="leads") (i:=37) (ps:=["limits","one","other","thing"]) 30 X G e rfl fun _ _ _ _ _ _ us hl=>len_4 (fun _ _ _ _=>rfl) us hl
 have dk:=cr (n:="leads_round") (i:=38) (ps:=["limits","thing"]) 31 X G e rfl fun _ _ _ _ _ _ us hl=>eZ (fun _ _=>rfl) us hl
 have F_sum_of:=cr (n:="sum_of") (i:=36) (ps:=["limits","walk"]) 32 X G e rfl fun _ _ _ _ _ _ us hl=>eZ (fun _ _=>rfl) us hl
 have F_bars:=cr (n:="bars") (i:=46) (ps:=["record","thing"]) 33 X G e rfl fun _ _ _ _ _ _ us hl=>eZ (fun _ _=>rfl) us hl
 have F__law_told:=cr (n:="_law_told") (i:=57) (ps:=["_law_ask","_law_record_here","_law_thing"]) 34 X G e rfl fun _ _ _ _ _ _ us hl=>len_3 (fun _ _ _=>rfl) us hl
 have cm:=cr (n:="greatest_world") (i:=42) (ps:=["record","limits"]) 35 X G e rfl fun _ _ _ _ _ _ us hl=>eZ (fun _ _=>rfl) us hl
 have F_world:=cr (n:="world") (i:=43) (ps:=["record"]) 36 X G e rfl fun _ _ _ _ _ _ us hl=>e9 (fun _=>rfl) us hl
 have F_has_world:=cr (n:="has_world") (i:=44) (ps:=["record"]) 37 X G e rfl fun _ _ _ _ _ _ us hl=>e9 (fun _=>rfl) us hl
 have eM:=cr (n:="_law_bars") (i:=58) (ps:=["_law_row","_law_thing"]) 38 X G e rfl fun _ _ _ _ _ _ us hl=>eZ (fun _ _=>rfl) us hl
 obtain⟨fd39,Fn_law,bnd⟩:=k_law (n:="law") (i:=59) (x:="_law_script") 39 X G e rfl hfa fun _ _ _ _ _ _ _=>rfl
 obtain⟨f40,fd40,Fn__law_refused⟩:=cr (n:="_law_refused") (i:=56) (ps:=["_law_e"]) 40 X G e rfl fun _ _ _ _ _ _ us hl=>e9 (fun _=>rfl) us hl
 refine⟨fd39,bnd,fun base _ _=> ?_⟩
 have c__law_cell:=ok__law_cell (P:=l.prog) (w:=w) (base:=base) eK B
 have c__law_drawn:=ok__law_drawn (P:=l.prog) (w:=w) (base:=base) dR c__law_cell
 have c__law_events:=ok__law_events (P:=l.prog) (w:=w) (base:=base) ej B
 have c__law_letter:=ok__law_letter (P:=l.prog) (w:=w) (base:=base) cg c__law_events c__law_drawn B
 have c__law_clock:=ok__law_clock (P:=l.prog) (w:=w) (base:=base) dS c__law_drawn B
 have c__law_record:=ok__law_record (P:=l.prog) (w:=w) (base:=base) dt c__law_drawn c__law_letter c__law_clock B
 have c__law_bounds:=ok__law_bounds (P:=l.prog) (w:=w) (base:=base) du B
 have c__law_table:=ok__law_table (P:=l.prog) (w:=w) (base:=base) dQ B
 have c_is_better:=ok_is_better (P:=l.prog) (w:=w) (base:=base) eJ
 have c_settle:=ok_settle (P:=l.prog) (w:=w) (base:=base) fQ c_is_better B
 have c_is_long:=ok_is_long (P:=l.prog) (w:=w) (base:=base) F_is_long B
 have c_is_whole:=ok_is_whole (P:=l.prog) (w:=w) (base:=base) F_is_whole B
 have c_is_within:=ok_is_within (P:=l.prog) (w:=w) (base:=base) F_is_within c_is_whole
 have c_is_pace:=ok_is_pace (P:=l.prog) (w:=w) (base:=base) gm c_is_within C
 have c_rises:=ok_rises (P:=l.prog) (w:=w) (base:=base) F_rises B
 have c_are_readings:=ok_are_readings (P:=l.prog) (w:=w) (base:=base) cp c_is_long c_rises c_is_within B C
 have c_is_clock:=ok_is_clock (P:=l.prog) (w:=w) (base:=base) dZ c_is_long c_is_pace c_are_readings
 have c_are_clocks:=ok_are_clocks (P:=l.prog) (w:=w) (base:=base) dP c_is_long c_is_clock B C
 have c_is_event:=ok_is_event (P:=l.prog) (w:=w) (base:=base) F_is_event c_is_within c_is_long B
 have c_is_delay:=ok_is_delay (P:=l.prog) (w:=w) (base:=base) F_is_delay c_is_within C
 have c_is_letter:=ok_is_letter (P:=l.prog) (w:=w) (base:=base) F_is_letter c_is_event c_is_long c_is_delay
 have c_are_letters:=ok_are_letters (P:=l.prog) (w:=w) (base:=base) dq c_is_long c_is_letter B C
 have c_is_record:=ok_is_record (P:=l.prog) (w:=w) (base:=base) F_is_record c_is_long c_are_clocks c_are_letters
 have c_need_record:=ok_need_record (P:=l.prog) (w:=w) (base:=base) cf c_is_record S
 have c_bounds_of_clock:=ok_bounds_of_clock (P:=l.prog) (w:=w) (base:=base) b6 B
 have c_bounds_of_letter:=ok_bounds_of_letter (P:=l.prog) (w:=w) (base:=base) bQ
 have c_bounds:=ok_bounds (P:=l.prog) (w:=w) (base:=base) fR c_need_record c_bounds_of_clock c_bounds_of_letter B
 have c_events:=ok_events (P:=l.prog) (w:=w) (base:=base) F_events c_need_record B
 have c_barring:=ok_barring (P:=l.prog) (w:=w) (base:=base) F_barring c_settle c_bounds c_events
 have c_are_numbers:=ok_are_numbers (P:=l.prog) (w:=w) (base:=base) dm c_is_within B
 have c_leads:=ok_leads (P:=l.prog) (w:=w) (base:=base) gJ c_are_numbers
 have c_leads_round:=ok_leads_round (P:=l.prog) (w:=w) (base:=base) dk c_leads c_are_numbers
 have c_sum_of:=ok_sum_of (P:=l.prog) (w:=w) (base:=base) F_sum_of B
 have c_bars:=ok_bars (P:=l.prog) (w:=w) (base:=base) F_bars c_bounds c_leads_round c_sum_of
 have c__law_told:=ok__law_told (P:=l.prog) (w:=w) (base:=base) F__law_told c_barring c_bars B S Fn__law_refused
 have c_greatest_world:=ok_greatest_world (P:=l.prog) (w:=w) (base:=base) cm c_events c_settle B
 have c_world:=ok_world (P:=l.prog) (w:=w) (base:=base) F_world c_greatest_world c_bounds
 have c_has_world:=ok_has_world (P:=l.prog) (w:=w) (base:=base) F_has_world c_world
 have c__law_bars:=ok__law_bars (P:=l.prog) (w:=w) (base:=base) eM B
 exact(ok_law (P:=l.prog) (w:=w) (base:=base) Fn_law c__law_record c__law_bounds c__law_table c__law_told c__law_drawn c__law_events c_has_world c__law_bars B).h
def vw:Program:=PySem.W.view PySem.Challenge.pw_farclocks_k22_barring [59]
def lse:List Str:=(["ClockError","NoRecord","NoEvent","NoNumber","NoWorld","Barred","Nothing","MOST_CLOCKS","MOST_LETTERS","MOST_READINGS","LAST_READING","SLOWEST","LONGEST","is_whole","is_within","is_long","rises","are_readings","is_pace","is_clock"]:List Str)++(["are_clocks","is_event","is_delay","is_letter","are_letters","is_record","need_record","events","bounds_of_clock","bounds_of_letter","bounds","are_numbers","sum_of","leads","leads_round","settle","is_better","greatest_world","world","has_world"]:List Str)++(["barring","bars","_law_cell","_law_drawn","_law_clock","_law_letter","_law_events","_law_record","_law_bounds","_law_table","_law_refused","_law_told","_law_bars"]:List Str)
def lhs (w:World)(h:Heap)(d:Drawn)(t:Nat)(os:OsState):=(PySem.W.topFrom treeTable PySem.Challenge.pw_farclocks_k22_barring w 9000 ⟨h,⟨[]⟩,d,t,os⟩).map (fun s=>(PySem.W.openSeen vw lse (importedModules PySem.Challenge.pw_farclocks_k22_barring.main.body) (fun _=>true) true s,obsK asks (fragH s.heap)))
def rhs (w:World):=some (PySem.W.openGood vw lse,valK asks top)
theorem lhs_r:lhs=lhs:=rfl
theorem rhs_r:rhs=rhs:=rfl
end G
namespace Tr
open PySem
mutual
def T.pl:T->Bool
 | .scr _=>false
 | .dct _ _=>false
 | .tup l=>plS l
 | .lst l=>plS l
 | _=>true
def plS:List T->Bool
 | [] =>true
 | t::l=>t.pl&&plS l
end
theorem gx:∀ {l:List T} {t:T},plS l=true->t∈l->t.pl=true
 | [],_,_,h=>by cases h
 | u::l,t,h,m=>by
  unfold plS at h
  rw [Bool.and_eq_true]at h
  rcases List.mem_cons.mp m with rfl | m
  ·exact h.1
  ·exact gx h.2 m
mutual
theorem T.pl_nd:∀ (t:T),t.pl=true->t.nd=true
 | .non,_=>rfl
 | .bl _,_=>rfl
 | .int _,_=>rfl
 | .str _,_=>rfl
 | .scr _,h=>by cases h
 | .dct _ _,h=>by cases h
 | .tup l,h=>by unfold T.pl at h;unfold T.nd;exact plS_nds l h
 | .lst l,h=>by unfold T.pl at h;unfold T.nd;exact plS_nds l h
theorem plS_nds:∀ (l:List T),plS l=true->nds l=true
 | [],_=>rfl
 | t::l,h=>by
  unfold plS at h
  rw [Bool.and_eq_true]at h
  unfold nds
  rw [T.pl_nd t h.1,plS_nds l h.2];rfl
end
theorem lc_map {fe:En->Rs T}{h:T->T}:∀ (ts:List T) (ρ:En),0<ρ.length->(∀t∈ts,fe (ρ.set 0 (.va t))= .ok (h t))->de (gN 0) bT fe ts ρ= .ok (ts.map h)
 | [],_,_,_=>rfl
 | t::r,ρ,hl,hf=>by
  unfold de
  have e1:gN 0 t ρ= .ok (ρ.set 0 (.va t)):=by unfold gN;rw [if_pos hl]
  have ih:=lc_map r (ρ.set 0 (.va t)) (by rw [List.length_set];exact hl) (fun u hu=>by rw [List.set_set];exact hf u (List.mem_cons_of_mem _ hu))
  simp only [e1,aD,bT,if_true,hf t List.mem_cons_self,ih,List.map_cons]
theorem lc_filter {fc:En->Rs Bool}{fe:En->Rs T}{p:T->Bool}{h:T->T}:∀ (ts:List T) (ρ:En),0<ρ.length->(∀t∈ts,fc (ρ.set 0 (.va t))= .ok (p t)/\(p t=true->fe (ρ.set 0 (.va t))= .ok (h t)))->de (gN 0) fc fe ts ρ= .ok ((ts.filter p).map h)
 | [],_,_,_=>rfl
 | t::r,ρ,hl,hf=>by
  unfold de
  have e1:gN 0 t ρ= .ok (ρ.set 0 (.va t)):=by unfold gN;rw [if_pos hl]
  have ih:=lc_filter r (ρ.set 0 (.va t)) (by rw [List.length_set];exact hl) (fun u hu=>by rw [List.set_set];exact hf u (List.mem_cons_of_mem _ hu))
  obtain⟨h1,h2⟩:=hf t List.mem_cons_self
  simp only [e1,aD,h1]
  cases q:p t with
  | true=>simp only [if_true,h2 q,aD,ih,List.filter_cons,q,List.map_cons]
  | false=>simp only [Bool.false_eq_true,if_false,ih,List.filter_cons,q]
theorem bools_map (p:T->Bool):∀ l:List T,bools (l.map fun t=>T.bl (p t))=some (l.map p)
 | [] =>rfl
 | t::l=>by rw [List.map_cons,bools,bools_map p l];rfl
theorem all_map (p:T->Bool)(l:List T):allT [.lst (l.map fun t=>T.bl (p t))] = .ok (.bl (l.all p)):=by
 simp only [allT,bools_map,List.all_map]
 rfl
theorem atI_of {α:Type}{l:List α}{k:Nat}{t:α}(h:l[k]? =some t):L2.atI l (k:Int)=some t:=by
 have hk:k<l.length:=(List.getElem?_eq_some_iff.mp h).1
 unfold L2.atI L2.ixN
 rw [if_pos (by omega),if_pos (by omega),Int.toNat_natCast]
 exact h
theorem au {n k:Nat}(h:n<=k)(hk:k<=1000:=by decide):n<=sizeLine:=by unfold sizeLine;omega
section
variable {f fa fb fc:En->Rs T}{fs:En->Rs (List T)}{b c:En->Rs Bool}{F G:En->Rs Fl}{ρ ρ' ρ1 ρ2:En}{t u r:T}{ts l m:List T}
theorem aw {g:T->T->Rs T}{x:Rs T}(ha:fa ρ= .ok t)(hb:fb ρ= .ok u)(hg:g t u=x):o2 g fa fb ρ=x:=by unfold o2;rw [ha,hb];exact hg
theorem k_o2e {g:T->T->Rs T}{c:Str}(ha:fa ρ= .err c):o2 g fa fb ρ= .err c:=by unfold o2;rw [ha];rfl
theorem k_o1 {g:T->Rs T}{x:Rs T}(ha:fa ρ= .ok t)(hg:g t=x):o1 g fa ρ=x:=by unfold o1;rw [ha];exact hg
theorem k_oD {g:T->T->Rs T}{x:Rs T}{ks vs:List T}(ha:fa ρ= .ok (.dct ks vs))(hb:fb ρ= .ok u)(hg:g (.dct ks vs) u=x):oD g fa fb ρ=x:=by unfold oD;rw [ha];show(fb ρ >>= g (.dct ks vs))=_;rw [hb];exact hg
theorem k_oL {g:T->T->Rs T}{x:Rs T}{ks:List T}(ha:fa ρ= .ok (.lst ks))(hb:fb ρ= .ok u)(hg:g (.lst ks) u=x):oL g fa fb ρ=x:=by unfold oL;rw [ha];show(fb ρ >>= g (.lst ks))=_;rw [hb];exact hg
theorem al (h:f ρ= .ok t)(hs:fs ρ= .ok ts):ac f fs ρ= .ok (t::ts):=by unfold ac;rw [h,hs];rfl
theorem k_conse {c:Str}(h:f ρ= .err c):ac f fs ρ= .err c:=by unfold ac;rw [h];rfl
theorem aL {g:List T->Rs T}{x:Rs T}(h:fs ρ= .ok ts)(hg:g ts=x):cl g fs ρ=x:=by unfold cl;rw [h];exact hg
theorem k_cle {g:List T->Rs T}{c:Str}(h:fs ρ= .err c):cl g fs ρ= .err c:=by unfold cl;rw [h];rfl
theorem a8 {k:Bool}(h:f ρ= .ok (.bl k)):tb f ρ= .ok k:=by unfold tb;rw [h];rfl
theorem c8 {k:Bool}(h:b ρ= .ok k):dM b ρ= .ok (!k):=by unfold dM;rw [h];rfl
theorem k_or1 (h:b ρ= .ok true):orB b c ρ= .ok true:=by unfold orB;rw [h];rfl
theorem k_or0 {x:Rs Bool}(h:b ρ= .ok false)(h2:c ρ=x):orB b c ρ=x:=by unfold orB;rw [h];exact h2
theorem k_and0 (h:b ρ= .ok false):andB b c ρ= .ok false:=by unfold andB;rw [h];rfl
theorem k_and1 {x:Rs Bool}(h:b ρ= .ok true)(h2:c ρ=x):andB b c ρ=x:=by unfold andB;rw [h];exact h2
theorem k_andV (h:fa ρ= .ok (.bl true)):cW fa fb ρ=fb ρ:=by unfold cW;rw [h];rfl
theorem f8 (h:fa ρ= .ok (.bl false)):cW fa fb ρ= .ok (.bl false):=by unfold cW;rw [h];rfl
theorem k_andVb {p q:Bool}(h:fa ρ= .ok (.bl p))(h2:p=true->fb ρ= .ok (.bl q)):cW fa fb ρ= .ok (.bl (p&&q)):=by
 cases p with
 | true=>rw [k_andV h,h2 rfl];rfl
 | false=>rw [f8 h];rfl
theorem k_orV1 (h:fa ρ= .ok (.bl true)):orV fa fb ρ= .ok (.bl true):=by unfold orV;rw [h];rfl
theorem k_orV0 (h:fa ρ= .ok (.bl false)):orV fa fb ρ=fb ρ:=by unfold orV;rw [h];rfl
theorem k_ife {p:Bool}(h:b ρ= .ok p):ifE b fa fb ρ=if p then fa ρ else fb ρ:=by unfold ifE;rw [h];rfl
theorem bN {g:T->En->Rs En}(h:f ρ= .ok t)(hg:g t ρ= .ok ρ'):b8 f g ρ= .ok (.nx ρ'):=by unfold b8;rw [h];show(match g t ρ with | .ok ρ'=>Rs.ok (Fl.nx ρ') | _=> .bad)=_;rw [hg]
theorem k_ase {g:T->En->Rs En}{c:Str}(h:f ρ= .err c):b8 f g ρ= .err c:=by unfold b8;rw [h];rfl
theorem ax (h:F ρ= .ok (.nx ρ')):az F G ρ=G ρ':=by unfold az;rw [h];rfl
theorem cx (h:F ρ= .ok (.rt t)):az F G ρ= .ok (.rt t):=by unfold az;rw [h];rfl
theorem k_seqc (h:F ρ= .ok (.ct ρ')):az F G ρ= .ok (.ct ρ'):=by unfold az;rw [h];rfl
theorem k_seqe {c:Str}(h:F ρ= .err c):az F G ρ= .err c:=by unfold az;rw [h];rfl
theorem ck (h:b ρ= .ok true):fo b F G ρ=F ρ:=by unfold fo;rw [h];rfl
theorem cG (h:b ρ= .ok false):fo b F G ρ=G ρ:=by unfold fo;rw [h];rfl
theorem bB (h:f ρ= .ok t):aM f ρ= .ok (.rt t):=by unfold aM;rw [h];rfl
theorem k_rete {c:Str}(h:f ρ= .err c):aM f ρ= .err c:=by unfold aM;rw [h];rfl
theorem k_ex (h:f ρ= .ok t):sEx f ρ= .ok (.nx ρ):=by unfold sEx;rw [h];rfl
theorem k_exe {c:Str}(h:f ρ= .err c):sEx f ρ= .err c:=by unfold sEx;rw [h];rfl
theorem cT {fi:En->Rs (List T)}{g:T->En->Rs En}{x:Fl}(h:fi ρ= .ok ts)(h2:aP g F ts ρ= .ok x):dy fi g F ρ= .ok x:=by unfold dy;rw [h];show(match aP g F ts ρ with | .ok f=>Rs.ok f | _=> .bad)=_;rw [h2]
theorem cy {g:T->En->Rs En}(h:g t ρ= .ok ρ1)(h2:F ρ1= .ok (.nx ρ2)):aP g F (t::ts) ρ=aP g F ts ρ2:=by rw [aP,h];show(F ρ1 >>= _)=_;rw [h2];rfl
theorem k_loopc {g:T->En->Rs En}(h:g t ρ= .ok ρ1)(h2:F ρ1= .ok (.ct ρ2)):aP g F (t::ts) ρ=aP g F ts ρ2:=by rw [aP,h];show(F ρ1 >>= _)=_;rw [h2];rfl
theorem k_loopr {g:T->En->Rs En}(h:g t ρ= .ok ρ1)(h2:F ρ1= .ok (.rt r)):aP g F (t::ts) ρ= .ok (.rt r):=by rw [aP,h];show(F ρ1 >>= _)=_;rw [h2];rfl
theorem k_while0 {n:Nat}(h:c ρ= .ok false):bw c F (n+1) ρ= .ok (.nx ρ):=by unfold bw;rw [h]
theorem k_while1 {n:Nat}(h:c ρ= .ok true)(h2:F ρ= .ok (.nx ρ')):bw c F (n+1) ρ=bw c F n ρ':=by rw [bw,h];simp only [h2]
theorem k_whiler {n:Nat}(h:c ρ= .ok true)(h2:F ρ= .ok (.rt t)):bw c F (n+1) ρ= .ok (.rt t):=by rw [bw,h];simp only [h2]
theorem aY {n m:Nat}(hl:ts.length=n)(h:F (bc m ts)= .ok (.rt t)):val n m F ts= .ok t:=by unfold val;rw [if_pos hl];unfold c9;rw [h];rfl
theorem k_vale {n m:Nat}{c:Str}(hl:ts.length=n)(h:F (bc m ts)= .err c):val n m F ts= .err c:=by unfold val;rw [if_pos hl];unfold c9;rw [h];rfl
theorem k_valn {n m:Nat}(hl:ts.length=n)(h:F (bc m ts)= .ok (.nx ρ)):val n m F ts= .ok .non:=by unfold val;rw [if_pos hl];unfold c9;rw [h];rfl
theorem k_try {h:Str->Rs T}{k:Fl}(e:F ρ= .ok k):sTry F h ρ= .ok k:=by unfold sTry;rw [e]
theorem k_trye {h:Str->Rs T}{c:Str}(e:F ρ= .err c)(e2:h c= .ok t):sTry F h ρ= .ok (.rt t):=by unfold sTry;rw [e];simp only [e2]
theorem k_lc {fi:En->Rs (List T)}{src:List (Option Nat)}{fe:En->Rs T}{h:T->T}(hi:fi ρ= .ok ts)(hs:ts.length<=sizeLine)(hn:0<src.length)(hf:∀ t∈ts,fe ((bA src ρ).set 0 (.va t))= .ok (h t)) :
  fw fi src (gN 0) bT fe ρ= .ok (.lst (ts.map h)):=by
 have e:=lc_map (fe:=fe) (h:=h) ts (bA src ρ) (by unfold bA;rw [List.length_map];exact hn) hf
 unfold fw
 rw [hi,aD,if_pos hs,e]
theorem k_lcf {fi:En->Rs (List T)}{src:List (Option Nat)}{fc:En->Rs Bool}{fe:En->Rs T}{p:T->Bool}{h:T->T}(hi:fi ρ= .ok ts)(hs:ts.length<=sizeLine)(hn:0<src.length)
  (hf:∀ t∈ts,fc ((bA src ρ).set 0 (.va t))= .ok (p t)/\(p t=true->fe ((bA src ρ).set 0 (.va t))= .ok (h t))):fw fi src (gN 0) fc fe ρ= .ok (.lst ((ts.filter p).map h)):=by
 have e:=lc_filter (fc:=fc) (fe:=fe) (p:=p) (h:=h) ts (bA src ρ) (by unfold bA;rw [List.length_map];exact hn) hf
 unfold fw
 rw [hi,aD,if_pos hs,e]
theorem cF (h:fs ρ= .ok ts)(hl:ts.length<=sizeLine):bi fs ρ= .ok (.tup ts):=by unfold bi;rw [h];show mkTup ts=_;unfold mkTup;rw [if_pos hl]
theorem eE (h:fs ρ= .ok ts)(hl:ts.length<=sizeLine):bY fs ρ= .ok (.lst ts):=by unfold bY;rw [h];show mkLst ts=_;unfold mkLst;rw [if_pos hl]
theorem k_newL {f:En->Rs (List T)}{i:Nat}(h:f ρ= .ok l)(hi:i<ρ.length)(hl:l.length<=1000):sNewL i f ρ= .ok (.nx (ρ.set i (.ow (.lst l)))):=by
 unfold sNewL;rw [h,aD,if_pos ⟨hi,au hl (by omega)⟩]
theorem k_new0 {i:Nat}(hi:i<ρ.length):sNewL i ah ρ= .ok (.nx (ρ.set i (.ow (.lst [])))):=k_newL rfl hi (Nat.zero_le _)
theorem k_app {i:Nat}(h:f ρ= .ok t)(hi:ρ[i]? =some (.ow (.lst l)))(hl:l.length<=1000):sApp i f ρ= .ok (.nx (ρ.set i (.ow (.lst (l++ [t]))))):=by
 unfold sApp;rw [hi];simp only [h,aD];rw [if_pos (by unfold sizeLine;omega)]
theorem k_ext {i:Nat}(h:f ρ= .ok (.lst m))(hi:ρ[i]? =some (.ow (.lst l)))(hl:l.length+m.length<=1000):sExt i f ρ= .ok (.nx (ρ.set i (.ow (.lst (l++m))))):=by
 unfold sExt;rw [hi];simp only [h,aD,extL];rw [if_pos (by unfold sizeLine;omega)]
theorem k_iSl (h:f ρ= .ok (.lst l)):iS f ρ= .ok l:=by unfold iS;rw [h];rfl
theorem k_iEl (h:fs ρ= .ok [.lst l]):iE fs ρ= .ok (ba 0 l):=by unfold iE;rw [h];rfl
theorem k_ixv {n:Nat}(e:l[n]? =some t):aO (.tup l) (.int (n:Int))= .ok t:=by show(match L2.atI l _ with | some t=>Rs.ok t | none=> .bad)=_;rw [atI_of e]
theorem k_ixvl {n:Nat}(e:l[n]? =some t):aO (.lst l) (.int (n:Int))= .ok t:=by show(match L2.atI l _ with | some t=>Rs.ok t | none=> .bad)=_;rw [atI_of e]
theorem k_ix {n:Nat}(h:fa ρ= .ok (.tup l))(h2:fb ρ= .ok (.int (n:Int)))(e:l[n]? =some t):o2 aO fa fb ρ= .ok t:=aw h h2 (k_ixv e)
theorem k_ixl {n:Nat}(h:fa ρ= .ok (.lst l))(h2:fb ρ= .ok (.int (n:Int)))(e:l[n]? =some t):o2 aO fa fb ρ= .ok t:=aw h h2 (k_ixvl e)
theorem k_sll {fe:En->Rs T}{fl fu:En->Rs (Option Int)}{lo hi:Option Int}(h:fe ρ= .ok (.lst l))(h1:fl ρ= .ok lo)(h2:fu ρ= .ok hi):sl fe fl fu ρ= .ok (.lst (cutT l lo hi)):=by
 unfold sl;rw [h,h1,h2];rfl
theorem k_pS {i:Int}(h:f ρ= .ok (.int i)):pS f ρ= .ok (some i):=by unfold pS;rw [h];rfl
theorem cut_take (l:List T)(n:Nat):cutT l none (some (n:Int))=l.take n:=by
 unfold cutT
 rw [HT.sIx_none,HT.sIx_nat,List.drop_zero,Nat.sub_zero,List.take_eq_take_iff]
 omega
theorem cut_drop (l:List T)(n:Nat):cutT l (some (n:Int)) none=l.drop n:=by
 unfold cutT
 rw [HT.sIx_none,HT.sIx_nat]
 by_cases h:n<=l.length
 ·rw [Nat.min_eq_left h]
  exact List.take_of_length_le (by rw [List.length_drop];omega)
 ·rw [Nat.min_eq_right (by omega),List.drop_eq_nil_of_le (Nat.le_refl _),List.drop_eq_nil_of_le (by omega),List.take_nil]
theorem k_ln {i:Nat}{o:OT}(hi:ρ[i]? =some (.ow o))(h:f (disown i ρ)= .ok t)(hk:t.nk o.isD=true):ln i f ρ= .ok t:=by
 unfold ln;rw [hi];simp only [h,aD,hk,if_true]
theorem k_lnB {i:Nat}{k:Bool}(h:b (disown i ρ)= .ok k):lnB i b ρ= .ok k:=h
theorem k_dis {i:Nat}{x:Rs Fl}(h:F (disown i ρ)=x):sDis i F ρ=x:=h
end
theorem mk2 (a b:T):mkTup [a,b] = .ok (.tup [a,b]):=by unfold mkTup;rw [if_pos (au (k:=1000) (by simp only [List.length_cons,List.length_nil];omega))]
theorem fW (n:Nat):(rng 0 n).length=n:=by unfold rng;rw [List.length_map,List.length_range];omega
end Tr
namespace G
open PySem Tr
def isI:T->Bool
 | .int _=>true
 | _=>false
theorem e_whole (t:T)(h:t.pl=true):gC [t] = .ok (.bl (isI t)):=by
 cases t <;> first | rfl | (simp [T.pl]at h;done)
def aK (t:T)(a b:Int):Bool:=match t with
 | .int i=>decide (a<=i)&&decide (i<=b)
 | _=>false
theorem eI (t:T)(a b:Int)(h:t.pl=true):aX [t,.int a,.int b] = .ok (.bl (aK t a b)):=by
 have w:=e_whole t h
 refine aY rfl (bB (ρ:=[.va t,.va (.int a),.va (.int b)]) ?_)
 cases t with
 | int i=>
  refine(k_andV (aL (ts:=[.int i]) rfl w)).trans ?_
  have e:aK (.int i) a b=(decide (a<=i)&&decide (i<=b)):=rfl
  rw [e]
  cases q:decide (a<=i)with
  | true=>simp [ch,vr,cmpI,q]
  | false=>simp [ch,vr,cmpI,q]
 | _=>exact f8 (aL (ts:=[_]) rfl w)
def dN (t:T)(a b:Nat):Bool:=match t with
 | .tup l=>decide (a<=l.length)&&decide (l.length<=b)
 | _=>false
theorem e_long (t:T)(a b:Nat)(h:t.pl=true):aJ [t,.int a,.int b] = .ok (.bl (dN t a b)):=by
 cases t with
 | tup l=>
  simp [aJ,val,c9,F_is_long,bc,aM,cW,o1,vr,isT,T.ty,isOne,ch,cl,ac,ah,bV,T.items,cmpI,dN]
  cases decide (a<=l.length) <;> rfl
 | scr _=>simp [T.pl]at h
 | dct _ _=>simp [T.pl]at h
 | _=>rfl
def pace (x y:T):Bool:=aK x 1 9&&(match x with
 | .int i=>aK y i 9
 | _=>false)
theorem e_pace (x y:T)(hx:x.pl=true)(hy:y.pl=true):fq [x,y] = .ok (.bl (pace x y)):=by
 have w:=eI x 1 9 hx
 unfold pace
 cases q:aK x 1 9 with
 | false=>rw [q]at w;simp [fq,val,c9,gm,bc,aM,cW,vr,cn,cl,ac,ah,w]
 | true=>
  rw [q]at w
  cases x with
  | int i=>simp [fq,val,c9,gm,bc,aM,cW,vr,cn,cl,ac,ah,w,eI y i 9 hy]
  | _=>cases q
def ris:List Int->Bool
 | a::b::r=>decide (a<b)&&ris (b::r)
 | _=>true
theorem ris2 (a b:Int)(r:List Int):ris (a::b::r)=(decide (a<b)&&ris (b::r)):=rfl
theorem all_lc {fe:En->Rs T}{p:T->Bool}{l:List T}{fi:En->Rs (List T)}{src:List (Option Nat)}{ρ:En}(hi:fi ρ= .ok l)(hs:l.length<=sizeLine)(hn:0<src.length)(hf:∀ t∈l,fe ((bA src ρ).set 0 (.va t))= .ok (.bl (p t))) :
  cl allT (ac (fw fi src (gN 0) bT fe) ah) ρ= .ok (.bl (l.all p)):=by
 have e:=lc_map (fe:=fe) (h:=fun t=>T.bl (p t)) l (bA src ρ) (by unfold bA;rw [List.length_map];exact hn) hf
 simp only [cl,ac,ah,fw,hi,aD,if_pos hs,e,all_map]
def lessAt (l:List T):T->Bool
 | .int k=>match L2.atI l k,L2.atI l (k+1)with
  | some (.int a),some (.int b)=>decide (a<b)
  | _,_=>false
 | _=>false
theorem rng_mem {t:T}{j:Int}(h:t∈rng 0 j):∃ k:Nat,t= .int k/\(k:Int)<j:=by
 unfold rng at h
 obtain⟨k,hk,e⟩:=List.mem_map.mp h
 rw [List.mem_range]at hk
 exact⟨k,by rw [<-e];simp,by omega⟩
theorem ris_at:(l:List Int)->l.length<=4->(rng 0 ((l.length:Int) - 1)).all (lessAt (l.map .int))=ris l
 | [],_=>rfl
 | [a],_=>rfl
 | [a,b],_=>by simp [rng,List.range_succ,lessAt,L2.atI,L2.ixN,ris]
 | [a,b,c],_=>by simp [rng,List.range_succ,lessAt,L2.atI,L2.ixN,ris]
 | [a,b,c,d],_=>by simp [rng,List.range_succ,lessAt,L2.atI,L2.ixN,ris,Bool.and_assoc]
 | a::b::c::d::e::r,h=>absurd h (by simp only [List.length_cons];omega)
theorem e_rises (l:List Int)(h:l.length<=4):m_rises [.tup (l.map .int)] = .ok (.bl (ris l)):=by
 have hr:iR (ac (o2 dG (cl bV (ac (vr 0) ah)) (cn (.int 1))) ah) [.va (.tup (l.map .int))] = .ok (rng 0 ((l.length:Int) - 1)):=by
  have:i62 ((l.length:Int) - 1)=true:=by unfold i62;rw [Bool.and_eq_true];exact⟨decide_eq_true (by omega),decide_eq_true (by omega)⟩
  simp [iR,ac,ah,o2,cl,vr,cn,bV,T.items,dG,this]
 have hs:(rng 0 ((l.length:Int) - 1)).length<=sizeLine:=by
  unfold rng sizeLine;rw [List.length_map,List.length_range];omega
 have e:=all_lc (fe:=o2 ltT (o2 aO (vr 1) (vr 0)) (o2 aO (vr 1) (o2 aI (vr 0) (cn (.int 1))))) (p:=lessAt (l.map .int)) (src:=[none,some 0]) hr hs (by decide) (fun t ht=>by
  obtain⟨k,rfl,hk⟩:=rng_mem ht
  have h1:(l.map T.int)[k]? =some (.int (l[k]'(by omega))):=by simp
  have h2:(l.map T.int)[k+1]? =some (.int (l[k+1]'(by omega))):=by rw [List.getElem?_map,List.getElem?_eq_getElem (by omega)];rfl
  have g1:=atI_of h1
  have g2:L2.atI (l.map T.int) ((k:Int)+1)=some (.int (l[k+1]'(by omega))):=atI_of h2
  simp [o2,vr,bA,cn,aI,aO,T.items,g1,g2,cmpI,lessAt])
 rw [ris_at l h]at e
 simp only [m_rises,val,List.length_singleton,if_true,F_rises,c9,aM,bc]
 show(do let f <-(do let t <-cl allT _ [.va (.tup (l.map .int))];Rs.ok (Fl.rt t));_)=_
 rw [e]
 rfl
def nums:List T->Option (List Int)
 | [] =>some []
 | .int i::l=>match nums l with
  | some m=>some (i::m)
  | none=>none
 | _::_=>none
def cN (t:T):Bool:=dN t 1 4&&(match t with
 | .tup l=>l.all (fun u=>aK u 0 99)&&(match nums l with | some m=>ris m | none=>false)
 | _=>false)
theorem nums_map:∀ {l:List T} {m:List Int},nums l=some m->l=m.map .int
 | [],m,h=>by cases h;rfl
 | t::l,m,h=>by
  cases t with
  | int i=>
   unfold nums at h
   cases q:nums l with
   | none=>rw [q]at h;cases h
   | some m'=>rw [q]at h;cases h;rw [List.map_cons,<-nums_map q]
  | _=>cases h
theorem nums_of:∀ {l:List T} {a b:Int},(l.all fun u=>aK u a b)=true->∃ m,nums l=some m
 | [],_,_,_=>⟨[],rfl⟩
 | t::l,a,b,h=>by
  rw [List.all_cons,Bool.and_eq_true]at h
  cases t with
  | int i=>
   obtain⟨m,e⟩:=nums_of h.2
   exact⟨i::m,by unfold nums;rw [e]⟩
  | _=>exact absurd h.1 (by simp [aK])
theorem cS {t:T}{a b:Nat}(h:dN t a b=true):∃ l,t= .tup l/\a<=l.length/\l.length<=b:=by
 cases t with
 | tup l=>unfold dN at h;rw [Bool.and_eq_true]at h;exact⟨l,rfl,of_decide_eq_true h.1,of_decide_eq_true h.2⟩
 | _=>cases h
theorem small {n k:Nat}(h:n<=k)(hk:k<=1000:=by decide):n<=sizeLine:=by unfold sizeLine;omega
theorem e_readings (t:T)(h:t.pl=true):bx [t] = .ok (.bl (cN t)):=by
 have w:aJ [t,.int 1,.int 4] = .ok (.bl (dN t 1 4)):=e_long t 1 4 h
 unfold cN
 cases q:dN t 1 4 with
 | false=>rw [q]at w;simp [bx,val,c9,cp,bc,az,fo,dM,tb,sN,aM,cl,vr,cn,ac,ah,w]
 | true=>
  rw [q]at w
  obtain⟨l,rfl,h1,h2⟩:=cS q
  have hp:∀ u∈l,u.pl=true:=fun u hu=>gx (by unfold T.pl at h;exact h) hu
  have e:=all_lc (fe:=cl aX (ac (vr 0) (ac (cn (.int 0)) (ac (cn (.int 99)) ah)))) (p:=fun u=>aK u 0 99) (src:=[none]) (fi:=iS (vr 0)) (ρ:=[.va (.tup l)]) rfl (small h2) (by decide) (fun u hu=>by
   simp [cl,ac,ah,vr,cn,bA,eI u 0 99 (hp u hu)])
  have w':cl aJ (ac (vr 0) (ac (cn (.int 1)) (ac (cn (.int 4)) ah))) [.va (.tup l)] = .ok (.bl true):=w
  show bx _= .ok (.bl (true&&(l.all (fun u=>aK u 0 99)&&(match nums l with | some m=>ris m | none=>false))))
  cases qa:l.all fun u=>aK u 0 99 with
  | false=>
   rw [qa]at e
   simp [bx,val,c9,cp,bc,az,fo,dM,tb,sN,aM,cW,e,w']
  | true=>
   rw [qa]at e
   obtain⟨m,em⟩:=nums_of qa
   have el:=nums_map em
   have er:=e_rises m (by rw [el,List.length_map]at h2;exact h2)
   rw [<-el]at er
   have er':cl m_rises (ac (vr 0) ah) [.va (.tup l)] = .ok (.bl (ris m)):=er
   simp [bx,val,c9,cp,bc,az,fo,dM,tb,sN,aM,cW,e,w',er',em]
def at_ (t:T)(k:Nat):T:=match t.items with
 | some l=>l.getD k .non
 | none=> .non
def bn (t:T):Bool:=dN t 3 3&&(match t with
 | .tup [x,y,r] =>pace x y&&cN r
 | _=>false)
theorem e_clock (t:T)(h:t.pl=true):cQ [t] = .ok (.bl (bn t)):=by
 have w:aJ [t,.int 3,.int 3] = .ok (.bl (dN t 3 3)):=e_long t 3 3 h
 unfold bn
 cases q:dN t 3 3 with
 | false=>rw [q]at w;simp [cQ,val,c9,dZ,bc,aM,cW,cl,vr,cn,ac,ah,w]
 | true=>
  rw [q]at w
  obtain⟨l,rfl,h1,h2⟩:=cS q
  match l,h1,h2 with
  | [x,y,r],_,_=>
   simp [T.pl,plS]at h
   obtain⟨px,py,pr⟩:=h
   have g0:aO (.tup [x,y,r]) (.int 0)= .ok x:=rfl
   have g1:aO (.tup [x,y,r]) (.int 1)= .ok y:=rfl
   have g2:aO (.tup [x,y,r]) (.int 2)= .ok r:=rfl
   have ep:=e_pace x y px py
   have er:=e_readings r pr
   cases qp:pace x y with
   | false=>rw [qp]at ep;simp [cQ,val,c9,dZ,bc,aM,cW,cl,vr,cn,ac,ah,o2,w,g0,g1,ep,qp]
   | true=>rw [qp]at ep;simp [cQ,val,c9,dZ,bc,aM,cW,cl,vr,cn,ac,ah,o2,w,g0,g1,g2,ep,er,qp]
def aU (t:T):Bool:=dN t 1 4&&(match t with
 | .tup l=>l.all bn
 | _=>false)
theorem e_clocks (t:T)(h:t.pl=true):cZ [t] = .ok (.bl (aU t)):=by
 have w:aJ [t,.int 1,.int 4] = .ok (.bl (dN t 1 4)):=e_long t 1 4 h
 unfold aU
 cases q:dN t 1 4 with
 | false=>rw [q]at w;simp [cZ,val,c9,dP,bc,aM,cW,cl,vr,cn,ac,ah,w]
 | true=>
  rw [q]at w
  obtain⟨l,rfl,h1,h2⟩:=cS q
  have hp:∀ u∈l,u.pl=true:=fun u hu=>gx (by unfold T.pl at h;exact h) hu
  have e:=all_lc (fe:=cl cQ (ac (vr 0) ah)) (p:=bn) (src:=[none]) (fi:=iS (vr 0)) (ρ:=[.va (.tup l)]) rfl (small h2) (by decide) (fun u hu=>by
   simp [cl,ac,ah,vr,cn,bA,e_clock u (hp u hu)])
  have w':cl aJ (ac (vr 0) (ac (cn (.int 1)) (ac (cn (.int 4)) ah))) [.va (.tup l)] = .ok (.bl true):=w
  simp [cZ,val,c9,dP,bc,aM,cW,e,w']
def ee (x y:T):Bool:=aK x 0 999&&(match x,y with
 | _,.non=>true
 | .int i,_=>aK y i 999
 | _,_=>false)
theorem e_delay (x y:T)(hx:x.pl=true)(hy:y.pl=true):gD [x,y] = .ok (.bl (ee x y)):=by
 have w:=eI x 0 999 hx
 refine aY rfl (bB (ρ:=[.va x,.va y]) ?_)
 unfold ee
 cases q:aK x 0 999 with
 | false=>rw [q]at w;exact f8 (aL (ts:=[x,.int 0,.int 999]) rfl w)
 | true=>
  rw [q]at w
  refine(k_andV (aL (ts:=[x,.int 0,.int 999]) rfl w)).trans ?_
  obtain⟨i,rfl,_⟩:∃ i,x= .int i/\True:=by
   cases x with
   | int i=>exact⟨i,rfl,trivial⟩
   | _=>cases q
  have e:=eI y i 999 hy
  cases y with
  | non=>exact k_orV1 (aw (t:=.non) (u:=.non) rfl rfl rfl)
  | _=>exact(k_orV0 (aw (t:=_) (u:=.non) rfl rfl rfl)).trans (aL (ts:=[_,.int i,.int 999]) rfl e)
def reads (cs:List T)(c:Int):Nat:=if 0<=c then(match cs[c.toNat]? with
 | some (.tup [_,_,.tup r])=>r.length
 | _=>0)else 0
def a9 (cs:List T)(t:T):Bool:=match t with
 | .tup [.int c,.int k] =>decide (0<=c)&&decide (c<cs.length)&&(decide (0<=k)&&decide (k<reads cs c))
 | _=>false
theorem clock_shape {t:T}(h:bn t=true):∃ x y r,t= .tup [x,y,.tup r]:=by
 unfold bn at h
 rw [Bool.and_eq_true]at h
 obtain⟨h1,h2⟩:=h
 obtain⟨l,rfl,h3,h4⟩:=cS h1
 match l,h3,h4,h2 with
 | [x,y,r],_,_,h2=>
  simp only [Bool.and_eq_true]at h2
  obtain⟨_,h5⟩:=h2
  unfold cN at h5
  rw [Bool.and_eq_true]at h5
  obtain⟨m,rfl,_⟩:=cS h5.1
  exact⟨x,y,m,rfl⟩
theorem cO {t:T}{a b:Int}(h:aK t a b=true):∃ i,t= .int i/\a<=i/\i<=b:=by
 cases t with
 | int i=>unfold aK at h;rw [Bool.and_eq_true]at h;exact⟨i,rfl,of_decide_eq_true h.1,of_decide_eq_true h.2⟩
 | _=>cases h
theorem e_event (cs:List T)(t:T)(hc:aU (.tup cs)=true)(h:t.pl=true):fL [.tup cs,t] = .ok (.bl (a9 cs t)):=by
 have w:aJ [t,.int 2,.int 2] = .ok (.bl (dN t 2 2)):=e_long t 2 2 h
 cases q:dN t 2 2 with
 | false=>
  rw [q]at w
  have:a9 cs t=false:=by
   unfold a9
   split
   ·cases q
   ·rfl
  rw [this]
  exact aY rfl (cx (ρ:=[.va (.tup cs),.va t]) ((ck (k_or1 (c8 (k:=false) (a8 (aL (ts:=[t,.int 2,.int 2]) rfl w))))).trans (bB rfl)))
 | true=>
  rw [q]at w
  obtain⟨l,rfl,h1,h2⟩:=cS q
  match l,h1,h2 with
  | [x,y],_,_=>
   simp [T.pl,plS]at h
   obtain⟨px,py⟩:=h
   have g0:aO (.tup [x,y]) (.int 0)= .ok x:=rfl
   have g1:aO (.tup [x,y]) (.int 1)= .ok y:=rfl
   have gl:bV [.tup cs] = .ok (.int cs.length):=rfl
   have e1:=eI x 0 ((cs.length:Int) - 1) px
   cases q1:aK x 0 ((cs.length:Int) - 1)with
   | false=>
    rw [q1]at e1
    have:a9 cs (.tup [x,y])=false:=by
     cases x with
     | int c=>
      cases y with
      | int k=>
       simp only [aK,Bool.and_eq_false_iff,decide_eq_false_iff_not]at q1
       simp only [a9,Bool.and_eq_false_iff,decide_eq_false_iff_not]
       omega
      | _=>rfl
     | _=>rfl
    rw [this]
    exact aY rfl (cx (ρ:=[.va (.tup cs),.va (.tup [x,y])]) ((ck (k_or0 (c8 (k:=true) (a8 (aL (ts:=[.tup [x,y],.int 2,.int 2]) rfl w))) (c8 (k:=false) (a8 (aL (ts:=[x,.int 0,.int ((cs.length:Int) - 1)]) (al (aw (t:=.tup [x,y]) (u:=.int 0) rfl rfl g0) (al rfl (al (aw (t:=.int cs.length) (u:=.int 1) (aL (ts:=[.tup cs]) rfl gl) rfl rfl) rfl))) e1))))).trans (bB rfl)))
   | true=>
    rw [q1]at e1
    obtain⟨c,rfl,c1,c2⟩:=cO q1
    obtain⟨n,rfl⟩:=Int.eq_ofNat_of_zero_le c1
    have hn:n<cs.length:=by omega
    have hcl:bn cs[n] =true:=by
     unfold aU at hc
     rw [Bool.and_eq_true]at hc
     exact List.all_eq_true.mp hc.2 _ (List.getElem_mem hn)
    obtain⟨a,b,r,er⟩:=clock_shape hcl
    have g2:aO (.tup cs) (.int (n:Int))= .ok (.tup [a,b,.tup r]):=by
     simp only [aO,T.items]
     rw [atI_of (List.getElem?_eq_getElem hn),er]
    have g3:aO (.tup [a,b,.tup r]) (.int 2)= .ok (.tup r):=rfl
    have gr:bV [.tup r] = .ok (.int r.length):=rfl
    have e2:=eI y 0 ((r.length:Int) - 1) py
    have:a9 cs (.tup [.int n,y])=aK y 0 ((r.length:Int) - 1):=by
     have er2:reads cs (n:Int)=r.length:=by
      unfold reads
      rw [if_pos c1,Int.toNat_natCast,List.getElem?_eq_getElem hn,er]
     cases y with
     | int k=>
      simp only [a9,aK,er2]
      rw [decide_eq_true c1,decide_eq_true (show(n:Int)<cs.length by omega)]
      simp only [Bool.true_and]
      congr 1
      exact decide_eq_decide.mpr (by omega)
     | _=>rfl
    rw [this]
    exact aY rfl ((ax (ρ:=[.va (.tup cs),.va (.tup [.int n,y])]) ((cG (k_or0 (c8 (k:=true) (a8 (aL (ts:=[.tup [.int n,y],.int 2,.int 2]) rfl w))) (c8 (k:=true) (a8 (aL (ts:=[.int n,.int 0,.int ((cs.length:Int) - 1)]) (al (aw (t:=.tup [.int n,y]) (u:=.int 0) rfl rfl g0) (al rfl (al (aw (t:=.int cs.length) (u:=.int 1) (aL (ts:=[.tup cs]) rfl gl) rfl rfl) rfl))) e1))))).trans rfl)).trans
     (bB (aL (ts:=[y,.int 0,.int ((r.length:Int) - 1)]) (al (aw (t:=.tup [.int n,y]) (u:=.int 1) rfl rfl g1) (al rfl (al (aw (t:=.int r.length) (u:=.int 1) (aL (ts:=[.tup r]) (al (aw (t:=.tup [a,b,.tup r]) (u:=.int 2) (aw (t:=.tup cs) (u:=.int n) rfl (aw (t:=.tup [.int n,y]) (u:=.int 0) rfl rfl g0) g2) rfl g3) rfl) gr) rfl rfl) rfl))) e2)))
def bp (cs:List T)(t:T):Bool:=match t with
 | .tup [a,b,x,y] =>ee x y&&(a9 cs a&&(a9 cs b&& !aW a b))
 | _=>false
theorem eG {cs:List T}{t:T}(h:a9 cs t=true):∃ c k:Int,t= .tup [.int c,.int k]:=by
 unfold a9 at h
 split at h
 ·exact⟨_,_,rfl⟩
 ·cases h
theorem e_letter (cs:List T)(t:T)(hc:aU (.tup cs)=true)(h:t.pl=true):ez [.tup cs,t] = .ok (.bl (bp cs t)):=by
 have w:aJ [t,.int 4,.int 4] = .ok (.bl (dN t 4 4)):=e_long t 4 4 h
 cases q:dN t 4 4 with
 | false=>
  rw [q]at w
  have:bp cs t=false:=by
   unfold bp
   split
   ·cases q
   ·rfl
  rw [this]
  exact aY rfl (cx (ρ:=[.va (.tup cs),.va t]) ((ck (k_or1 (c8 (k:=false) (a8 (aL (ts:=[t,.int 4,.int 4]) rfl w))))).trans (bB rfl)))
 | true=>
  rw [q]at w
  obtain⟨l,rfl,h1,h2⟩:=cS q
  match l,h1,h2 with
  | [a,b,x,y],_,_=>
   simp [T.pl,plS]at h
   obtain⟨pa,pb,px,py⟩:=h
   have g0:o2 aO (vr 1) (cn (.int 0)) [.va (.tup cs),.va (.tup [a,b,x,y])] = .ok a:=rfl
   have g1:o2 aO (vr 1) (cn (.int 1)) [.va (.tup cs),.va (.tup [a,b,x,y])] = .ok b:=rfl
   have dl:=k_or0 (ρ:=[.va (.tup cs),.va (.tup [a,b,x,y])]) (c8 (k:=true) (a8 (aL (fs:=ac (vr 1) (ac (cn (.int 4)) (ac (cn (.int 4)) ah))) (ts:=[.tup [a,b,x,y],.int 4,.int 4]) rfl w))) (c8 (a8 (aL (fs:=ac (o2 aO (vr 1) (cn (.int 2))) (ac (o2 aO (vr 1) (cn (.int 3))) ah)) (ts:=[x,y]) rfl (e_delay x y px py))))
   show _=Rs.ok (T.bl (ee x y&&(a9 cs a&&(a9 cs b&& !aW a b))))
   cases q1:ee x y with
   | false=>
    rw [q1]at dl
    exact aY rfl (cx ((ck dl).trans (bB rfl)))
   | true=>
    rw [q1]at dl
    refine aY rfl ((ax ((cG dl).trans rfl)).trans (bB ?_))
    rw [Bool.true_and]
    refine k_andVb (aL (ts:=[.tup cs,a]) (al rfl (al g0 rfl)) (e_event cs a hc pa)) fun q2=>k_andVb (aL (ts:=[.tup cs,b]) (al rfl (al g1 rfl)) (e_event cs b hc pb)) fun _=>aw g0 g1 ?_
    obtain⟨c,k,rfl⟩:=eG q2
    unfold neT
    rw [if_pos (fP (by simp [T.dep,deps]) rfl (T.pl_nd _ pb))]
def isLetters (cs:List T)(t:T):Bool:=dN t 0 8&&(match t with
 | .tup l=>l.all (bp cs)
 | _=>false)
theorem e_letters (cs:List T)(t:T)(hc:aU (.tup cs)=true)(h:t.pl=true):cH [.tup cs,t] = .ok (.bl (isLetters cs t)):=by
 have w:aJ [t,.int 0,.int 8] = .ok (.bl (dN t 0 8)):=e_long t 0 8 h
 unfold isLetters
 cases q:dN t 0 8 with
 | false=>rw [q]at w;simp [cH,val,c9,dq,bc,aM,cW,cl,vr,cn,ac,ah,w]
 | true=>
  rw [q]at w
  obtain⟨l,rfl,h1,h2⟩:=cS q
  have hp:∀ u∈l,u.pl=true:=fun u hu=>gx (by unfold T.pl at h;exact h) hu
  have e:=all_lc (fe:=cl ez (ac (vr 1) (ac (vr 0) ah))) (p:=bp cs) (src:=[none,some 0]) (fi:=iS (vr 1)) (ρ:=[.va (.tup cs),.va (.tup l)]) rfl (small h2) (by decide) (fun u hu=>by
   simp [cl,ac,ah,vr,cn,bA,e_letter cs u hc (hp u hu)])
  have w':cl aJ (ac (vr 1) (ac (cn (.int 0)) (ac (cn (.int 8)) ah))) [.va (.tup cs),.va (.tup l)] = .ok (.bl true):=w
  simp [cH,val,c9,dq,bc,aM,cW,e,w']
def isRec (t:T):Bool:=match t with
 | .tup [.tup cs,ls] =>aU (.tup cs)&&isLetters cs ls
 | _=>false
theorem e_record (t:T)(h:t.pl=true):fX [t] = .ok (.bl (isRec t)):=by
 have w:aJ [t,.int 2,.int 2] = .ok (.bl (dN t 2 2)):=e_long t 2 2 h
 cases q:dN t 2 2 with
 | false=>
  rw [q]at w
  have:isRec t=false:=by
   unfold isRec
   split
   ·cases q
   ·rfl
  rw [this]
  exact aY rfl (bB (ρ:=[.va t]) (f8 (aL (ts:=[t,.int 2,.int 2]) rfl w)))
 | true=>
  rw [q]at w
  obtain⟨l,rfl,h1,h2⟩:=cS q
  match l,h1,h2 with
  | [x,y],_,_=>
   simp [T.pl,plS]at h
   obtain⟨px,py⟩:=h
   have g0:aO (.tup [x,y]) (.int 0)= .ok x:=rfl
   have g1:aO (.tup [x,y]) (.int 1)= .ok y:=rfl
   have e1:=e_clocks x px
   cases q1:aU x with
   | false=>
    rw [q1]at e1
    have:isRec (.tup [x,y])=false:=by
     cases x with
     | tup cs=>show(aU (.tup cs)&&_)=false;rw [q1];rfl
     | _=>rfl
    rw [this]
    exact aY rfl (bB (ρ:=[.va (.tup [x,y])]) ((k_andV (aL (ts:=[.tup [x,y],.int 2,.int 2]) rfl w)).trans (f8 (aL (ts:=[x]) (al (aw (t:=.tup [x,y]) (u:=.int 0) rfl rfl g0) rfl) e1))))
   | true=>
    rw [q1]at e1
    cases x with
    | tup cs=>
     have e2:=e_letters cs y q1 py
     have:isRec (.tup [.tup cs,y])=isLetters cs y:=by show(aU (.tup cs)&&_)=_;rw [q1];rfl
     rw [this]
     exact aY rfl (bB (ρ:=[.va (.tup [.tup cs,y])]) ((k_andV (aL (ts:=[.tup [.tup cs,y],.int 2,.int 2]) rfl w)).trans ((k_andV (aL (ts:=[.tup cs]) (al (aw (t:=.tup [.tup cs,y]) (u:=.int 0) rfl rfl g0) rfl) e1)).trans (aL (ts:=[.tup cs,y]) (al (aw (t:=.tup [.tup cs,y]) (u:=.int 0) rfl rfl g0) (al (aw (t:=.tup [.tup cs,y]) (u:=.int 1) rfl rfl g1) rfl)) e2))))
    | _=>cases q1
theorem fx:∀ m:List Int,deps (m.map .int)=0
 | [] =>rfl
 | a::m=>by rw [List.map_cons,deps,fx m];rfl
def evOf (i n:Nat):List T:=(rng 0 n).map fun t=>T.tup [.int i,t]
def rdN:T->Nat
 | .tup [_,_,.tup r] =>r.length
 | _=>0
def eF:Nat->List T->List T
 | _,[] => []
 | i,c::r=>evOf i (rdN c)++eF (i+1) r
theorem f9 {t:T}(h:bn t=true):∃ x y r,t= .tup [x,y,.tup r]/\1<=r.length/\r.length<=4:=by
 obtain⟨x,y,r,rfl⟩:=clock_shape h
 have:cN (.tup r)=true:=by
  have h':(pace x y&&cN (.tup r))=true:=h
  rw [Bool.and_eq_true]at h'
  exact h'.2
 unfold cN at this
 rw [Bool.and_eq_true]at this
 obtain⟨l,e,h1,h2⟩:=cS this.1
 cases e
 exact⟨x,y,r,rfl,h1,h2⟩
theorem evOf_len (i n:Nat):(evOf i n).length=n:=by unfold evOf;rw [List.length_map,fW]
abbrev evF:En->Rs Fl:=b8 (o2 aI (vr 1) (fw (iR (ac (cl bV (ac (o2 aO (vr 3) (cn (.int 2))) ah)) ah)) [none,some 2] (gN 0) bT (bi (ac (vr 1) (ac (vr 0) ah))))) (gN 1)
abbrev evG:T->En->Rs En:=gT 2 (eR (gN 2) (eR (gN 3) gsN))
theorem iR1 {f:En->Rs (List T)}{ρ:En}{j:Int}(h:f ρ= .ok [.int j])(h0:0<=j)(h1:j<=100000):iR f ρ= .ok (rng 0 j):=by
 have e:i62 j=true:=by unfold i62;rw [Bool.and_eq_true];exact⟨decide_eq_true (by omega),decide_eq_true (by omega)⟩
 unfold iR
 rw [h]
 show(if i62 j=true then _ else _)=_
 rw [e];rfl
theorem ef (l m:List T)(h:(l++m).length<=1000):aI (.lst l) (.lst m)= .ok (.lst (l++m)):=by
 show mkLst (l++m)=_
 unfold mkLst
 rw [if_pos (au h)]
theorem add_tup (l m:List T)(h:(l++m).length<=1000):aI (.tup l) (.tup m)= .ok (.tup (l++m)):=by
 show mkTup (l++m)=_
 unfold mkTup
 rw [if_pos (au h)]
theorem ev_lc (c0 acc x y:T)(r:List T)(i:Nat)(h:r.length<=4) :
  fw (iR (ac (cl bV (ac (o2 aO (vr 3) (cn (.int 2))) ah)) ah)) [none,some 2] (gN 0) bT (bi (ac (vr 1) (ac (vr 0) ah))) [.va c0,.va acc,.va (.int i),.va (.tup [x,y,.tup r])] = .ok (.lst (evOf i r.length)):=
 k_lc (iR1 (j:=(r.length:Int)) rfl (by omega) (by omega)) (au (k:=4) (by rw [fW];exact h)) (by simp) fun t _=>mk2 _ _
theorem ev_step (c0 x y:T)(acc r:List T)(i:Nat)(h:r.length<=4)(ha:acc.length<=100):evF [.va c0,.va (.lst acc),.va (.int i),.va (.tup [x,y,.tup r])] = .ok (.nx [.va c0,.va (.lst (acc++evOf i r.length)),.va (.int i),.va (.tup [x,y,.tup r])]):=
 bN (aw (t:=.lst acc) rfl (ev_lc c0 (.lst acc) x y r i h) (ef _ _ (by rw [List.length_append,evOf_len];omega))) rfl
theorem ev_loop:∀ (cs:List T) (c0:T) (acc:List T) (i:Nat) (s2 s3:Sl),(∀c∈cs,bn c=true)->acc.length+4*cs.length<=100 →
  ∃y2 y3,aP evG evF (ba i cs) [.va c0,.va (.lst acc),s2,s3] = .ok (.nx [.va c0,.va (.lst (acc++eF i cs)),y2,y3])
 | [],c0,acc,i,s2,s3,_,_=>⟨s2,s3,by simp [ba,aP,eF]⟩
 | c::cs,c0,acc,i,s2,s3,hc,hl=>by
  obtain⟨x,y,r,rfl,r1,r2⟩:=f9 (hc c List.mem_cons_self)
  rw [List.length_cons]at hl
  obtain⟨z2,z3,ih⟩:=ev_loop cs c0 (acc++evOf i r.length) (i+1) (.va (.int i)) (.va (.tup [x,y,.tup r])) (fun c h=>hc c (List.mem_cons_of_mem _ h)) (by rw [List.length_append,evOf_len];omega)
  refine⟨z2,z3,?_⟩
  rw [ba,cy (ρ1:=[.va c0,.va (.lst acc),.va (.int i),.va (.tup [x,y,.tup r])]) rfl (ev_step c0 x y acc r i r2 (by omega)),ih,eF,List.append_assoc]
  rfl
theorem cV {cs:List T}(hc:aU (.tup cs)=true):(∀c∈cs,bn c=true)/\1<=cs.length/\cs.length<=4:=by
 unfold aU at hc
 rw [Bool.and_eq_true]at hc
 obtain⟨l,e,h1,h2⟩:=cS hc.1
 cases e
 exact⟨fun c h=>List.all_eq_true.mp hc.2 c h,h1,h2⟩
theorem e_events (cs:List T)(hc:aU (.tup cs)=true):cb [.tup cs] = .ok (.lst (eF 0 cs)):=by
 obtain⟨ha,h1,h2⟩:=cV hc
 obtain⟨y2,y3,e⟩:=ev_loop cs (.tup cs) [] 0 .em .em ha (by simp;omega)
 rw [List.nil_append]at e
 refine aY rfl ?_
 unfold ej
 rw [ax (ρ':=[.va (.tup cs),.va (.lst []),.em,.em]) rfl,ax ((cT (ts:=ba 0 cs) rfl e))]
 rfl
theorem mem_rng {n k:Nat}(h:k<n):T.int (k:Int)∈rng 0 (n:Int):=by
 unfold rng
 exact List.mem_map.mpr ⟨k,List.mem_range.mpr (by omega),by simp⟩
theorem reads_rdN (cs:List T)(c:Nat):reads cs (c:Int)=rdN (cs.getD c .non):=by
 unfold reads
 rw [if_pos (by omega),Int.toNat_natCast,List.getD_eq_getElem?_getD]
 cases cs[c]? with
 | none=>rfl
 | some t=>
  cases t with
  | tup l=>
   match l with
   | [] =>rfl
   | [_] =>rfl
   | [_,_] =>rfl
   | [_,_,z] =>cases z <;> rfl
   | _::_::z::_::_=>cases z <;> rfl
  | _=>rfl
theorem loop_all {g:T->En->Rs En}{F:En->Rs Fl}{p:T->Bool}(J:En->Prop):∀ (ts:List T),(∀t∈ts,∀ρ,J ρ->∃ ρ1,g t ρ= .ok ρ1/\(p t=true->∃ ρ2,F ρ1= .ok (.nx ρ2)/\J ρ2)/\(p t=false->F ρ1= .ok (.rt (.bl false)))) →
  ∀ρ,J ρ->(ts.all p=true->∃ ρ',aP g F ts ρ= .ok (.nx ρ')/\J ρ')/\(ts.all p=false->aP g F ts ρ= .ok (.rt (.bl false)))
 | [],_,ρ,hj=>⟨fun _=>⟨ρ,rfl,hj⟩,fun h=>(by cases h)⟩
 | t::ts,hs,ρ,hj=>by
  obtain⟨ρ1,h1,h2,h3⟩:=hs t List.mem_cons_self ρ hj
  rw [List.all_cons]
  cases q:p t with
  | false=>exact⟨fun h=>(by cases h),fun _=>k_loopr h1 (h3 q)⟩
  | true=>
   obtain⟨ρ2,e2,j2⟩:=h2 q
   rw [cy h1 e2,Bool.true_and]
   exact loop_all J ts (fun t ht=>hs t (List.mem_cons_of_mem _ ht)) ρ2 j2
mutual
def sm (n:Nat):T->Bool
 | .dct _ _=>false
 | .scr _=>false
 | .tup l=>decide (l.length<=n)&&sms n l
 | .lst l=>decide (l.length<=n)&&sms n l
 | _=>true
def sms (n:Nat):List T->Bool
 | [] =>true
 | t::l=>sm n t&&sms n l
end
mutual
theorem sm_pl {n:Nat}:∀ (t:T),sm n t=true->t.pl=true
 | .scr _,h=>by simp [sm]at h
 | .dct _ _,h=>by simp [sm]at h
 | .tup l,h=>by rw [sm,Bool.and_eq_true]at h;rw [T.pl];exact sms_pl l h.2
 | .lst l,h=>by rw [sm,Bool.and_eq_true]at h;rw [T.pl];exact sms_pl l h.2
 | .non,_=>by simp [T.pl]
 | .bl _,_=>by simp [T.pl]
 | .int _,_=>by simp [T.pl]
 | .str _,_=>by simp [T.pl]
theorem sms_pl {n:Nat}:∀ (l:List T),sms n l=true->plS l=true
 | [],_=>by simp [plS]
 | t::l,h=>by rw [sms,Bool.and_eq_true]at h;rw [plS,sm_pl t h.1,sms_pl l h.2];rfl
end
theorem sms_iff {n:Nat}:∀ {l:List T},sms n l=true↔ ∀t∈l,sm n t=true
 | [] =>by simp [sms]
 | t::l=>by rw [sms,Bool.and_eq_true,sms_iff (l:=l)];simp
theorem sm_tup {n:Nat}{l:List T}:sm n (.tup l)=true↔l.length<=n/\∀ t∈l,sm n t=true:=by rw [sm,Bool.and_eq_true,sms_iff,decide_eq_true_iff]
theorem mod_ok {i j:Int}(h:0<j):modT (.int i) (.int j)= .ok (.int (i % j)):=by show(if _ then _ else _)=_;rw [if_pos h]
theorem fdiv_ok {i j:Int}(h:0<j)(h2:j<1073741824):fdivT (.int i) (.int j)= .ok (.int (i / j)):=by show(if _ then _ else _)=_;rw [if_pos ⟨h,h2⟩]
theorem mul_l {i j:Int}(h : -18446744073709551616<i)(h2:i<18446744073709551616):bM (.int i) (.int j)= .ok (.int (i*j)):=by
 show mulT (.int i) (.int j)=_
 show(if _ then _ else _)=_
 rw [if_pos (.inl ⟨by omega,by omega⟩)]
theorem mul_r {i j:Int}(h : -18446744073709551616<j)(h2:j<18446744073709551616):bM (.int i) (.int j)= .ok (.int (i*j)):=by
 show mulT (.int i) (.int j)=_
 show(if _ then _ else _)=_
 rw [if_pos (.inr ⟨by omega,by omega⟩)]
theorem e_cell (ns:List Int)(k:Nat)(hn:ns.length<=63):∃ c,eC [.scr ns,.int k] = .ok (.int c):=by
 have e0:o2 eqT (vr 0) (bY ah) [.va (.scr ns),.va (.int k)] = .ok (.bl (beqSc ns [])):=by
  refine aw (t:=.scr ns) (u:=.lst []) rfl (eE (ts:=[]) rfl (au (k:=0) (Nat.le_refl _))) ?_
  unfold eqT
  rw [if_pos (fP (by simp [T.dep]) rfl rfl)]
  rfl
 cases ns with
 | nil=>
  refine⟨7*k,aY rfl ?_⟩
  unfold eK
  refine cx ((ck (a8 e0)).trans (bB (aw (t:=.int 7) (u:=.int k) rfl rfl (mul_l (by omega) (by omega)))))
 | cons a r=>
  have hl:(0:Int)<((a::r).length:Nat):=by simp only [List.length_cons];omega
  have hl2:(((a::r).length:Nat):Int)<1073741824:=by simp only [List.length_cons]at hn ⊢;omega
  have hi:k % (a::r).length<(a::r).length:=Nat.mod_lt _ (by simp)
  have g0:o2 modT (vr 1) (cl bV (ac (vr 0) ah)) [.va (.scr (a::r)),.va (.int k)] = .ok (.int ((k % (a::r).length:Nat):Int)):=by
   refine aw (t:=.int k) (u:=.int ((a::r).length:Nat)) rfl ?_ (by rw [mod_ok hl];rfl)
   refine aL (ts:=[.scr (a::r)]) rfl ?_
   show Rs.ok (T.int (((a::r).map T.int).length:Nat))=_
   rw [List.length_map]
  have g1:aO (.scr (a::r)) (.int ((k % (a::r).length:Nat):Int))= .ok (.int (a::r)[k % (a::r).length]):=by
   have e:((a::r).map T.int)[k % (a::r).length]? =some (.int (a::r)[k % (a::r).length]):=by rw [List.getElem?_map,List.getElem?_eq_getElem hi];rfl
   show(match L2.atI ((a::r).map T.int) ((k % (a::r).length:Nat):Int)with | some t=>Rs.ok t | none=> .bad)=_
   rw [atI_of e]
  have g2:o2 fdivT (vr 1) (cl bV (ac (vr 0) ah)) [.va (.scr (a::r)),.va (.int k)] = .ok (.int ((k:Int) / ((a::r).length:Nat))):=by
   refine aw (t:=.int k) (u:=.int ((a::r).length:Nat)) rfl ?_ (fdiv_ok hl hl2)
   refine aL (ts:=[.scr (a::r)]) rfl ?_
   show Rs.ok (T.int (((a::r).map T.int).length:Nat))=_
   rw [List.length_map]
  refine⟨(a::r)[k % (a::r).length] +6553*((k:Int) / ((a::r).length:Nat)),aY rfl ?_⟩
  unfold eK
  show az _ _ [.va (.scr (a::r)),.va (.int k)] =_
  refine(ax (ρ':=[.va (.scr (a::r)),.va (.int k)]) ((cG (a8 e0)).trans rfl)).trans ?_
  exact bB (aw (aw (t:=.scr (a::r)) rfl g0 g1) (aw (t:=.int 6553) rfl g2 (mul_l (by omega) (by omega))) rfl)
theorem bX (ns:List Int)(k:Nat)(m:Int)(hn:ns.length<=63)(hm:0<m):∃ r,aq [.scr ns,.int k,.int m] = .ok (.int r)/\0<=r/\r<m:=by
 obtain⟨c,hc⟩:=e_cell ns k hn
 have b1:∀ x:Int,0<=x % 2147483563/\x % 2147483563<2147483563:=fun x=>⟨Int.emod_nonneg _ (by omega),Int.emod_lt_of_pos _ (by omega)⟩
 have b2:∀ x:Int,0<=x % 2147483399/\x % 2147483399<2147483399:=fun x=>⟨Int.emod_nonneg _ (by omega),Int.emod_lt_of_pos _ (by omega)⟩
 generalize hx:(c % 2147483563*69069+104723*((k:Int)+1)) % 2147483563=x
 have hx':=b1 (c % 2147483563*69069+104723*((k:Int)+1))
 rw [hx]at hx'
 generalize hy:(x*x+x / 3) % 2147483399=y
 have hy':=b2 (x*x+x / 3)
 rw [hy]at hy'
 refine⟨(y*y+y / 7) % 2147483647 / 11 % m,aY rfl ?_,Int.emod_nonneg _ (by omega),Int.emod_lt_of_pos _ hm⟩
 show dR [.va (.scr ns),.va (.int k),.va (.int m),.em] =_
 unfold dR
 have s1:b8 (o2 modT (o2 aI (o2 bM (o2 modT (cl eC (ac (vr 0) (ac (vr 1) ah))) (cn (.int 2147483563))) (cn (.int 69069))) (o2 bM (cn (.int 104723)) (o2 aI (vr 1) (cn (.int 1))))) (cn (.int 2147483563))) (gN 3) [.va (.scr ns),.va (.int k),.va (.int m),.em] = .ok (.nx [.va (.scr ns),.va (.int k),.va (.int m),.va (.int x)]):=by
  refine bN (t:=.int x) (aw (u:=.int 2147483563) (aw (aw (u:=.int 69069) (aw (u:=.int 2147483563) (aL (ts:=[.scr ns,.int k]) rfl hc) rfl (mod_ok (by omega))) rfl (mul_r (by omega) (by omega))) (aw (t:=.int 104723) (u:=.int ((k:Int)+1)) rfl rfl (mul_l (by omega) (by omega))) rfl) rfl ?_) rfl
  rw [mod_ok (by omega),hx]
 have s2:b8 (o2 modT (o2 aI (o2 bM (vr 3) (vr 3)) (o2 fdivT (vr 3) (cn (.int 3)))) (cn (.int 2147483399))) (gN 3) [.va (.scr ns),.va (.int k),.va (.int m),.va (.int x)] = .ok (.nx [.va (.scr ns),.va (.int k),.va (.int m),.va (.int y)]):=by
  refine bN (t:=.int y) (aw (u:=.int 2147483399) (aw (aw (t:=.int x) (u:=.int x) rfl rfl (mul_l (by omega) (by omega))) (aw (t:=.int x) (u:=.int 3) rfl rfl (fdiv_ok (by omega) (by omega))) rfl) rfl ?_) rfl
  rw [mod_ok (by omega),hy]
 rw [ax s1,ax s2]
 exact bB (aw (u:=.int m) (aw (u:=.int 11) (aw (u:=.int 2147483647) (aw (aw (t:=.int y) (u:=.int y) rfl rfl (mul_l (by omega) (by omega))) (aw (t:=.int y) (u:=.int 7) rfl rfl (fdiv_ok (by omega) (by omega))) rfl) rfl (mod_ok (by omega))) rfl (fdiv_ok (by omega) (by omega))) rfl (mod_ok hm))
theorem dv {ns:List Int}{k:Nat}{m r:Int}{f g h:En->Rs T}{ρ:En}(e:aq [.scr ns,.int k,.int m] = .ok (.int r))(h1:f ρ= .ok (.scr ns))(h2:g ρ= .ok (.int k))(h3:h ρ= .ok (.int m)) :
  cl aq (ac f (ac g (ac h ah))) ρ= .ok (.int r):=aL (al h1 (al h2 (al h3 rfl))) e
theorem ris_snoc:∀ (l:List Int) (z y:Int),ris (l++ [z])=true->z<y->ris (l++ [z] ++ [y])=true
 | [],z,y,_,h=>by simp [ris,h]
 | [a],z,y,h,hy=>by
  simp [ris]at h ⊢
  omega
 | a::b::l,z,y,h,hy=>by
  have h':ris (a::b::(l++ [z]))=true:=h
  rw [ris2,Bool.and_eq_true]at h'
  have ih:=ris_snoc (b::l) z y h'.2 hy
  show ris (a::b::(l++ [z] ++ [y]))=true
  rw [ris2,h'.1]
  exact ih
theorem nums_int:∀ l:List Int,nums (l.map .int)=some l
 | [] =>rfl
 | a::l=>by rw [List.map_cons,nums,nums_int l]
def RdOk (l:List Int):Prop:=∃ (l':List Int) (z:Int),l=l'++ [z]/\ris l=true/\(∀x∈l,0<=x/\x<=5*l.length)/\z<=5*l.length
abbrev clF:En->Rs Fl:=b8 (o2 aI (vr 3) (bi (ac (o2 aI (o2 aI (o2 aO (vr 3) (o1 negT (cn (.int 1)))) (cn (.int 1))) (cl aq (ac (vr 0) (ac (o2 aI (o2 aI (vr 1) (cn (.int 3))) (vr 4)) (ac (cn (.int 5)) ah))))) ah))) (gN 3)
theorem ix_last (l:List T)(z:T):aO (.tup (l++ [z])) (.int (-1))= .ok z:=by
 have e:L2.atI (l++ [z]) (-1)=some z:=by
  unfold L2.atI L2.ixN
  simp
  rw [if_pos (by omega)]
  have q:(-1+((l.length:Int)+1)).toNat=l.length:=by omega
  show(l++ [z])[(-1+((l.length:Int)+1)).toNat]? =some z
  rw [q]
  simp
 show(match L2.atI (l++ [z]) (-1)with | some t=>Rs.ok t | none=> .bad)=_
 rw [e]
theorem cl_step (ns:List Int)(hn:ns.length<=63)(a j:Nat)(s:T)(l:List Int)(h:RdOk l)(hl:l.length<=3):∃ l2,clF [.va (.scr ns),.va (.int a),.va s,.va (.tup (l.map .int)),.va (.int j)] = .ok (.nx [.va (.scr ns),.va (.int a),.va s,.va (.tup (l2.map .int)),.va (.int j)])/\RdOk l2/\l2.length=l.length+1:=by
 obtain⟨l',z,rfl,h1,h2,h3⟩:=h
 obtain⟨d,ed,d0,d1⟩:=bX ns (a+3+j) 5 hn (by omega)
 refine⟨l'++ [z] ++ [z+1+d],?_,⟨l'++ [z],z+1+d,rfl,ris_snoc l' z _ h1 (by omega),?_,?_⟩,by simp⟩
 ·refine bN (t:=.tup ((l'++ [z] ++ [z+1+d]).map .int)) (aw (t:=.tup ((l'++ [z]).map .int)) (u:=.tup [.int (z+1+d)]) rfl (cF (ts:=[.int (z+1+d)]) (al (aw (t:=.int (z+1)) (u:=.int d) (aw (t:=.int z) (u:=.int 1) (aw (t:=.tup ((l'++ [z]).map .int)) (u:=.int (-1)) rfl rfl ?_) rfl rfl) (dv (k:=a+3+j) ed rfl ?_ rfl) rfl) rfl) (au (k:=1) (by simp))) ?_) rfl
  ·rw [List.map_append];exact ix_last _ _
  ·refine aw (t:=.int ((a:Int)+3)) (u:=.int j) (aw (t:=.int a) (u:=.int 3) rfl rfl rfl) rfl ?_
   show Rs.ok (T.int ((a:Int)+3+j))=_
   congr 2
  ·rw [List.map_append (l₁:=l'++ [z])]
   exact add_tup _ _ (by rw [List.length_append,List.length_map];simp at hl ⊢;omega)
 ·intro x hx
  rcases List.mem_append.mp hx with hx | hx
  ·have:=h2 x hx
   simp only [List.length_append,List.length_singleton]at this ⊢
   omega
  ·rw [List.mem_singleton]at hx
   subst hx
   have hz:=h2 z (by simp)
   simp only [List.length_append,List.length_singleton]at h3 ⊢
   omega
 ·simp only [List.length_append,List.length_singleton]at h3 ⊢
  omega
theorem cl_loop (ns:List Int)(hn:ns.length<=63)(a:Nat)(s:T):∀ (js:List Nat) (l:List Int) (s4:Sl),RdOk l->l.length+js.length<=4->∃ l2 s5,aP (gN 4) clF (js.map fun(j:Nat)=>T.int j) [.va (.scr ns),.va (.int a),.va s,.va (.tup (l.map .int)),s4] = .ok (.nx [.va (.scr ns),.va (.int a),.va s,.va (.tup (l2.map .int)),s5])/\RdOk l2/\l2.length=l.length+js.length
 | [],l,s4,h,_=>⟨l,s4,rfl,h,rfl⟩
 | j::js,l,s4,h,hl=>by
  rw [List.length_cons]at hl
  obtain⟨l2,e2,h2,n2⟩:=cl_step ns hn a j s l h (by omega)
  obtain⟨l3,s5,e3,h3,n3⟩:=cl_loop ns hn a s js l2 (.va (.int j)) h2 (by omega)
  refine⟨l3,s5,?_,h3,by rw [n3,n2,List.length_cons];omega⟩
  rw [List.map_cons,cy (ρ1:=[.va (.scr ns),.va (.int a),.va s,.va (.tup (l.map .int)),.va (.int j)]) rfl e2]
  exact e3
theorem rng_nat (n:Nat):rng 0 (n:Int)=(List.range n).map fun(j:Nat)=>T.int j:=by
 unfold rng
 simp
theorem RdOk.reads {l:List Int}(h:RdOk l)(hl:l.length<=4):cN (.tup (l.map .int))=true:=by
 obtain⟨l',z,rfl,h1,h2,h3⟩:=h
 unfold cN
 rw [Bool.and_eq_true]
 refine⟨?_,?_⟩
 ·simp [dN];simp at hl;omega
 ·show(((l'++ [z]).map T.int).all (fun u=>aK u 0 99)&&(match nums ((l'++ [z]).map T.int)with | some m=>ris m | none=>false))=true
  rw [nums_int]
  show(_&&ris (l'++ [z]))=true
  rw [h1,Bool.and_true,List.all_eq_true]
  intro t ht
  obtain⟨x,hx,rfl⟩:=List.mem_map.mp ht
  have:=h2 x hx
  simp only [aK,Bool.and_eq_true,decide_eq_true_eq]
  omega
theorem sm_ints (n:Nat)(l:List Int)(h:l.length<=n):sm n (.tup (l.map .int))=true:=sm_tup.mpr ⟨by rw [List.length_map];exact h,fun t ht=>by obtain⟨x,_,rfl⟩:=List.mem_map.mp ht;simp [sm]⟩
theorem e_dclock (ns:List Int)(hn:ns.length<=63)(a:Nat):∃ c,bU [.scr ns,.int a] = .ok c/\bn c=true/\sm 8 c=true:=by
 obtain⟨d1,e1,p1,q1⟩:=bX ns a 3 hn (by omega)
 obtain⟨d2,e2,p2,q2⟩:=bX ns (a+2) 6 hn (by omega)
 obtain⟨d3,e3,p3,q3⟩:=bX ns (a+1) 3 hn (by omega)
 obtain⟨d4,e4,p4,q4⟩:=bX ns (a+6) 3 hn (by omega)
 obtain⟨n3,rfl⟩:=Int.eq_ofNat_of_zero_le p3
 obtain⟨l,s5,el,hl,nl⟩:=cl_loop ns hn a (.int (1+d1)) (List.range n3) [d2] .em ⟨[],d2,rfl,rfl,fun x hx=>by rw [List.mem_singleton]at hx;subst hx;simp;omega,by simp;omega⟩ (by simp;omega)
 have nl':l.length<=4:=by rw [nl];simp;omega
 have hr:=hl.reads nl'
 refine⟨.tup [.int (1+d1),.int (1+d1+d4),.tup (l.map .int)],aY rfl ?_,?_,?_⟩
 ·show dS [.va (.scr ns),.va (.int a),.em,.em,.em] =_
  unfold dS
  rw [ax (ρ':=[.va (.scr ns),.va (.int a),.va (.int (1+d1)),.em,.em]) (bN (t:=.int (1+d1)) (aw (t:=.int 1) rfl (dv e1 rfl rfl rfl) rfl) rfl)]
  rw [ax (ρ':=[.va (.scr ns),.va (.int a),.va (.int (1+d1)),.va (.tup ([d2].map .int)),.em]) (bN (t:=.tup [.int d2]) (cF (ts:=[.int d2]) (al (dv (k:=a+2) e2 rfl rfl rfl) rfl) (au (k:=1) (by simp))) rfl)]
  rw [ax ((cT (iR1 (al (dv (k:=a+1) e3 rfl rfl rfl) rfl) (by omega) (by omega)) (by rw [rng_nat];exact el)))]
  exact bB (cF (al (t:=.int (1+d1)) rfl (al (aw (t:=.int (1+d1)) rfl (dv (k:=a+6) e4 rfl rfl rfl) rfl) (al (t:=.tup (l.map .int)) rfl rfl))) (au (k:=3) (by simp)))
 ·show(true&&(pace (.int (1+d1)) (.int (1+d1+d4))&&cN _))=true
  rw [hr]
  simp only [pace,aK,Bool.true_and,Bool.and_true,Bool.and_eq_true,decide_eq_true_eq]
  omega
 ·refine sm_tup.mpr ⟨by simp,fun t ht=> ?_⟩
  rcases List.mem_cons.mp ht with rfl | ht
  ·simp [sm]
  ·rcases List.mem_cons.mp ht with rfl | ht
   ·simp [sm]
   ·rw [List.mem_singleton]at ht;subst ht;exact sm_ints 8 l (by omega)
theorem mem_evs {y:T}:∀ (cs:List T) (i:Nat),y∈eF i cs->∃ c k:Nat,y= .tup [.int c,.int k]/\i<=c/\c<i+cs.length/\k<rdN (cs.getD (c - i) .non)
 | [],i,h=>by cases h
 | x::cs,i,h=>by
  rw [eF]at h
  rcases List.mem_append.mp h with h | h
  ·unfold evOf at h
   obtain⟨t,ht,rfl⟩:=List.mem_map.mp h
   obtain⟨j,rfl,hj⟩:=rng_mem ht
   refine⟨i,j,rfl,Nat.le_refl _,by rw [List.length_cons];omega,?_⟩
   rw [Nat.sub_self]
   show j<rdN x
   omega
  ·obtain⟨c,k,e,h1,h2,h3⟩:=mem_evs cs (i+1) h
   refine⟨c,k,e,by omega,by rw [List.length_cons];omega,?_⟩
   have:c - i=(c - (i+1))+1:=by omega
   rw [this];exact h3
theorem ev_is {cs:List T}{y:T}(h:y∈eF 0 cs):a9 cs y=true:=by
 obtain⟨c,k,rfl,_,h2,h3⟩:=mem_evs cs 0 h
 show(decide ((0:Int)<=(c:Int))&&decide ((c:Int)<(cs.length:Int))&&(decide ((0:Int)<=(k:Int))&&decide ((k:Int)<(reads cs (c:Int):Int))))=true
 rw [Nat.sub_zero]at h3
 rw [reads_rdN]
 simp only [Bool.and_eq_true,decide_eq_true_eq]
 omega
theorem nodup_evs:∀ (cs:List T) (i:Nat),(eF i cs).Nodup
 | [],i=>List.nodup_nil
 | x::cs,i=>by
  rw [eF,List.nodup_append]
  refine⟨?_,nodup_evs cs (i+1),?_⟩
  ·unfold evOf rng
   rw [List.map_map]
   rw [List.nodup_iff_pairwise_ne,List.pairwise_map]
   refine List.nodup_range.imp ?_
   intro a b hab e
   simp at e
   exact hab (by omega)
  ·intro a ha b hb e
   subst e
   unfold evOf at ha
   obtain⟨t,ht,rfl⟩:=List.mem_map.mp ha
   obtain⟨c,k,e,h1,_,_⟩:=mem_evs cs (i+1) hb
   simp at e
   omega
theorem nodup_ne {l:List T}(h:l.Nodup){i j:Nat}(hi:i<l.length)(hj:j<l.length)(hij:i≠j):l[i] ≠l[j]:=by
 rw [List.nodup_iff_pairwise_ne,List.pairwise_iff_getElem]at h
 rcases Nat.lt_or_ge i j with q | q
 ·exact h i j hi hj q
 ·exact fun e=>h j i hj hi (by omega) e.symm
theorem evs_len:∀ (cs:List T) (i:Nat),(∀c∈cs,bn c=true)->(eF i cs).length<=4*cs.length
 | [],i,_=>Nat.le_refl _
 | x::cs,i,h=>by
  obtain⟨a,b,r,rfl,_,h2⟩:=f9 (h x List.mem_cons_self)
  have:=evs_len cs (i+1) fun c hc=>h c (List.mem_cons_of_mem _ hc)
  rw [eF,List.length_append,evOf_len,List.length_cons]
  show r.length+_<=_
  omega
theorem event_ne {cs:List T}{a b:T}(ha:a9 cs a=true)(hb:a9 cs b=true)(h:a≠b):aW a b=false:=by
 obtain⟨c,k,rfl⟩:=eG ha
 obtain⟨c',k',rfl⟩:=eG hb
 rw [Bool.eq_false_iff]
 intro e
 simp [aW,beqTs]at e
 exact h (by rw [e.1,e.2])
theorem sm_event {cs:List T}{a:T}(ha:a9 cs a=true):sm 8 a=true:=by
 obtain⟨c,k,rfl⟩:=eG ha
 simp [sm,sms]
theorem ix_lst {l:List T}{i:Nat}(h:i<l.length):aO (.lst l) (.int (i:Int))= .ok l[i]:=by
 show(match L2.atI l (i:Int)with | some t=>Rs.ok t | none=> .bad)=_
 rw [atI_of (List.getElem?_eq_getElem h)]
theorem eq_int (a b:Int):eqT (.int a) (.int b)= .ok (.bl (a == b)):=by
 unfold eqT
 rw [if_pos (fP (by simp [T.dep]) rfl rfl)]
 rfl
theorem e_dletter (ns:List Int)(hn:ns.length<=63)(a:Nat)(cs:List T)(hc:aU (.tup cs)=true):∃ r,cI [.scr ns,.int a,.tup cs] = .ok r/\(r= .non\/(bp cs r=true/\sm 8 r=true)):=by
 obtain⟨ha,h1,h4⟩:=cV hc
 have hlen:=evs_len cs 0 ha
 have er:=e_events cs hc
 have gl:∀ s4 s5 s6 s7:Sl,cl bV (ac (vr 3) ah) [.va (.scr ns),.va (.int a),.va (.tup cs),.va (.lst (eF 0 cs)),s4,s5,s6,s7] = .ok (.int ((eF 0 cs).length:Nat)):=fun _ _ _ _=>rfl
 have s1:b8 (cl cb (ac (vr 2) ah)) (gN 3) [.va (.scr ns),.va (.int a),.va (.tup cs),.em,.em,.em,.em,.em] = .ok (.nx [.va (.scr ns),.va (.int a),.va (.tup cs),.va (.lst (eF 0 cs)),.em,.em,.em,.em]):=bN (aL (ts:=[.tup cs]) rfl er) rfl
 have lt:o2 ltT (cl bV (ac (vr 3) ah)) (cn (.int 2)) [.va (.scr ns),.va (.int a),.va (.tup cs),.va (.lst (eF 0 cs)),.em,.em,.em,.em] = .ok (.bl (decide (((eF 0 cs).length:Int)<2))):=aw (t:=.int ((eF 0 cs).length:Nat)) (u:=.int 2) (gl _ _ _ _) rfl rfl
 by_cases hs:(eF 0 cs).length<2
 ·refine⟨.non,aY rfl ?_,.inl rfl⟩
  show cg [.va (.scr ns),.va (.int a),.va (.tup cs),.em,.em,.em,.em,.em] =_
  unfold cg
  rw [ax s1]
  rw [decide_eq_true (by omega)]at lt
  exact cx ((ck (a8 lt)).trans rfl)
 ·rw [decide_eq_false (by omega)]at lt
  generalize hN:(eF 0 cs).length=n at*
  obtain⟨d1,e1,p1,q1⟩:=bX ns a (n:Int) hn (by omega)
  obtain⟨d2,e2,p2,q2⟩:=bX ns (a+1) ((n:Int) - 1) hn (by omega)
  obtain⟨d3,e3,p3,q3⟩:=bX ns (a+2) 8 hn (by omega)
  obtain⟨d4,e4,p4,q4⟩:=bX ns (a+3) 3 hn (by omega)
  obtain⟨d5,e5,p5,q5⟩:=bX ns (a+4) 9 hn (by omega)
  obtain⟨i,rfl⟩:=Int.eq_ofNat_of_zero_le p1
  obtain⟨d2,rfl⟩:=Int.eq_ofNat_of_zero_le p2
  have hi:i<(eF 0 cs).length:=by omega
  have hj:(i+1+d2) % n<(eF 0 cs).length:=by rw [hN];exact Nat.mod_lt _ (by omega)
  have hij:i≠(i+1+d2) % n:=by
   rcases Nat.lt_or_ge (i+1+d2) n with q | q
   ·rw [Nat.mod_eq_of_lt q];omega
   ·have:(i+1+d2) % n=i+1+d2 - n:=by
     rw [Nat.mod_eq_sub_mod q,Nat.mod_eq_of_lt (by omega)]
    rw [this];omega
  have eA:=ev_is (List.getElem_mem hi)
  have eB:=ev_is (List.getElem_mem hj)
  have eN:(eF 0 cs)[i] ≠(eF 0 cs)[(i+1+d2) % n]:=nodup_ne (nodup_evs cs 0) hi hj hij
  generalize hA:(eF 0 cs)[i] =A at*
  generalize hB:(eF 0 cs)[(i+1+d2) % n] =B at*
  let y:T:=if d4 == 0 then .non else .int (d3+d5)
  refine⟨.tup [A,B,.int d3,y],aY rfl ?_,.inr ⟨?_,?_⟩⟩
  ·show cg [.va (.scr ns),.va (.int a),.va (.tup cs),.em,.em,.em,.em,.em] =_
   unfold cg
   rw [ax s1]
   rw [ax (ρ':=[.va (.scr ns),.va (.int a),.va (.tup cs),.va (.lst (eF 0 cs)),.em,.em,.em,.em]) ((cG (a8 lt)).trans rfl)]
   rw [ax (ρ':=[.va (.scr ns),.va (.int a),.va (.tup cs),.va (.lst (eF 0 cs)),.va (.int (i:Nat)),.em,.em,.em]) (bN (dv e1 rfl rfl (gl _ _ _ _)) rfl)]
   rw [ax (ρ':=[.va (.scr ns),.va (.int a),.va (.tup cs),.va (.lst (eF 0 cs)),.va (.int (i:Nat)),.va (.int ((i+1+d2) % n:Nat)),.em,.em]) (bN (t:=.int ((i+1+d2) % n:Nat)) (aw (t:=.int ((i:Int)+1+d2)) (u:=.int n) (aw (t:=.int ((i:Int)+1)) (u:=.int d2) rfl (dv (k:=a+1) e2 rfl rfl (aw (t:=.int n) (u:=.int 1) (gl _ _ _ _) rfl rfl)) rfl) (gl _ _ _ _) (mod_ok (by omega))) rfl)]
   rw [ax (ρ':=[.va (.scr ns),.va (.int a),.va (.tup cs),.va (.lst (eF 0 cs)),.va (.int (i:Nat)),.va (.int ((i+1+d2) % n:Nat)),.va (.int d3),.em]) (bN (dv (k:=a+2) e3 rfl rfl rfl) rfl)]
   have ey:ifE (tb (o2 eqT (cl aq (ac (vr 0) (ac (o2 aI (vr 1) (cn (.int 3))) (ac (cn (.int 3)) ah)))) (cn (.int 0)))) (cn .non) (o2 aI (vr 6) (cl aq (ac (vr 0) (ac (o2 aI (vr 1) (cn (.int 4))) (ac (cn (.int 9)) ah))))) [.va (.scr ns),.va (.int a),.va (.tup cs),.va (.lst (eF 0 cs)),.va (.int (i:Nat)),.va (.int ((i+1+d2) % n:Nat)),.va (.int d3),.em] = .ok y:=by
    rw [k_ife (a8 (aw (u:=.int 0) (dv (k:=a+3) e4 rfl rfl rfl) rfl (eq_int _ _)))]
    show _=Rs.ok (if d4 == 0 then T.non else .int (d3+d5))
    cases d4 == 0 with
    | true=>rfl
    | false=>exact aw (t:=.int d3) rfl (dv (k:=a+4) e5 rfl rfl rfl) rfl
   rw [ax (ρ':=[.va (.scr ns),.va (.int a),.va (.tup cs),.va (.lst (eF 0 cs)),.va (.int (i:Nat)),.va (.int ((i+1+d2) % n:Nat)),.va (.int d3),.va y]) (bN ey rfl)]
   refine bB (cF (al (t:=A) (aw (t:=.lst (eF 0 cs)) (u:=.int (i:Nat)) rfl rfl ?_) (al (t:=B) (aw (t:=.lst (eF 0 cs)) (u:=.int ((i+1+d2) % n:Nat)) rfl rfl ?_) (al (t:=.int d3) rfl (al (t:=y) rfl rfl)))) (au (k:=4) (by simp)))
   ·rw [<-hA];exact ix_lst hi
   ·rw [<-hB];exact ix_lst hj
  ·show(ee (.int d3) y&&(a9 cs A&&(a9 cs B&& !aW A B)))=true
   rw [eA,eB,event_ne eA eB eN]
   have:ee (.int d3) y=true:=by
    show(aK (.int d3) 0 999&&(match(T.int d3),(if d4 == 0 then T.non else .int (d3+d5))with | _,.non=>true | .int i,_=>aK (if d4 == 0 then T.non else .int (d3+d5)) i 999 | _,_=>false))=true
    cases d4 == 0 with
    | true=>simp [aK];omega
    | false=>simp [aK];omega
   rw [this];rfl
  ·refine sm_tup.mpr ⟨by simp,fun t ht=> ?_⟩
   have hy:sm 8 y=true:=by show sm 8 (if d4 == 0 then T.non else .int (d3+d5))=true;cases d4 == 0 <;> simp [sm]
   simp only [List.mem_cons,List.not_mem_nil,or_false]at ht
   rcases ht with rfl | rfl | rfl | rfl
   ·exact sm_event eA
   ·exact sm_event eB
   ·simp [sm]
   ·exact hy
def okv:Rs T->T
 | .ok t=>t
 | _=> .non
theorem mul_lst (l:List T)(k:Int)(h : -(2 ^ 63)<=k/\k<2 ^ 63/\l.length*k.toNat<=sizeLine):bM (.lst l) (.int k)= .ok (.lst (List.replicate k.toNat l).flatten):=by
 show mulT (.lst l) (.int k)=_
 unfold mulT
 exact if_pos h
theorem mul_one (x:T)(b:Bool):bM (.lst [x]) (.int (if b then 1 else 0))= .ok (.lst (if b then [x]else [])):=by
 cases b with
 | true=>exact mul_lst [x] 1 ⟨by decide,by decide,au (k:=1) (by simp)⟩
 | false=>exact mul_lst [x] 0 ⟨by decide,by decide,au (k:=1) (by simp)⟩
abbrev leF:En->Rs Fl:=az (b8 (cl cI (ac (vr 0) (ac (o2 aI (o2 aI (vr 1) (cn (.int 31))) (o2 bM (cn (.int 6)) (vr 5))) (ac (vr 3) ah)))) (gN 6)) (b8 (o2 aI (vr 4) (o2 bM (bY (ac (vr 6) ah)) (cl intT (ac (o2 cM (vr 6) (cn .non)) ah)))) (gN 4))
def LsOk (cs ls:List T):Prop:=∀ t∈ls,bp cs t=true/\sm 8 t=true
theorem le_step (ns:List Int)(hn:ns.length<=63)(a j:Nat)(m:T)(cs ls:List T)(hc:aU (.tup cs)=true)(h:LsOk cs ls)(hl:ls.length<=100)(s6:Sl) :
  ∃ls2 s7,leF [.va (.scr ns),.va (.int a),.va m,.va (.tup cs),.va (.lst ls),.va (.int j),s6] = .ok (.nx [.va (.scr ns),.va (.int a),.va m,.va (.tup cs),.va (.lst ls2),.va (.int j),s7])/\LsOk cs ls2/\ls2.length<=ls.length+1:=by
 obtain⟨r,er,hr⟩:=e_dletter ns hn (a+31+6*j) cs hc
 have e1:∀ G,az (b8 (cl cI (ac (vr 0) (ac (o2 aI (o2 aI (vr 1) (cn (.int 31))) (o2 bM (cn (.int 6)) (vr 5))) (ac (vr 3) ah)))) (gN 6)) G [.va (.scr ns),.va (.int a),.va m,.va (.tup cs),.va (.lst ls),.va (.int j),s6] =G [.va (.scr ns),.va (.int a),.va m,.va (.tup cs),.va (.lst ls),.va (.int j),.va r]:=fun G=>by
  refine ax (bN (t:=r) (aL (ts:=[.scr ns,.int (a+31+6*j:Nat),.tup cs]) (al (t:=.scr ns) rfl (al (t:=.int (a+31+6*j:Nat)) (aw (t:=.int ((a:Int)+31)) (u:=.int (6*(j:Int))) rfl (aw (t:=.int 6) (u:=.int j) rfl rfl (mul_l (by omega) (by omega))) rfl) (al (t:=.tup cs) rfl rfl))) er) rfl)
 have e2:cl intT (ac (o2 cM (vr 6) (cn .non)) ah) [.va (.scr ns),.va (.int a),.va m,.va (.tup cs),.va (.lst ls),.va (.int j),.va r] = .ok (.int (if !r.isN then 1 else 0)):=aL (ts:=[.bl (!r.isN)]) rfl rfl
 refine⟨ls++(if !r.isN then [r]else []),.va r,?_,?_,?_⟩
 ·refine(e1 _).trans (bN (aw (t:=.lst ls) (u:=.lst (if !r.isN then [r]else [])) rfl (aw (t:=.lst [r]) (eE (ts:=[r]) rfl (au (k:=1) (by simp))) e2 (mul_one _ _)) (ef _ _ ?_)) rfl)
  rw [List.length_append]
  cases r.isN <;> simp <;> omega
 ·intro t ht
  rcases List.mem_append.mp ht with ht | ht
  ·exact h t ht
  ·rcases hr with rfl | hr
   ·cases ht
   ·cases q:r.isN with
    | true=>rw [q]at ht;cases ht
    | false=>
     rw [q]at ht
     rw [show t=r by simpa using ht]
     exact hr
 ·rw [List.length_append]
  cases r.isN <;> simp
theorem le_loop (ns:List Int)(hn:ns.length<=63)(a:Nat)(m:T)(cs:List T)(hc:aU (.tup cs)=true):∀ (js:List Nat) (ls:List T) (s5 s6:Sl),LsOk cs ls->ls.length+js.length<=100 →
  ∃ls2 t5 t6,aP (gN 5) leF (js.map fun(j:Nat)=>T.int j) [.va (.scr ns),.va (.int a),.va m,.va (.tup cs),.va (.lst ls),s5,s6] = .ok (.nx [.va (.scr ns),.va (.int a),.va m,.va (.tup cs),.va (.lst ls2),t5,t6])/\LsOk cs ls2/\ls2.length<=ls.length+js.length
 | [],ls,s5,s6,h,_=>⟨ls,s5,s6,rfl,h,Nat.le_refl _⟩
 | j::js,ls,s5,s6,h,hl=>by
  rw [List.length_cons]at hl
  obtain⟨l2,s7,e2,h2,n2⟩:=le_step ns hn a j m cs ls hc h (by omega) s6
  obtain⟨l3,t5,t6,e3,h3,n3⟩:=le_loop ns hn a m cs hc js l2 (.va (.int j)) s7 h2 (by omega)
  refine⟨l3,t5,t6,?_,h3,by rw [List.length_cons];omega⟩
  rw [List.map_cons,cy (ρ1:=[.va (.scr ns),.va (.int a),.va m,.va (.tup cs),.va (.lst ls),.va (.int j),s6]) rfl e2]
  exact e3
theorem e_drec (ns:List Int)(hn:ns.length<=63)(a m:Nat)(hm:m<=8):∃ cs ls,d8 [.scr ns,.int a,.int m] = .ok (.tup [.tup cs,.tup ls])/\aU (.tup cs)=true/\cs.length<=3/\(∀c∈cs,sm 8 c=true)/\LsOk cs ls/\ls.length<=m:=by
 obtain⟨d1,e1,p1,q1⟩:=bX ns a 3 hn (by omega)
 obtain⟨d2,e2,p2,q2⟩:=bX ns (a+30) ((m:Int)+1) hn (by omega)
 obtain⟨d1,rfl⟩:=Int.eq_ofNat_of_zero_le p1
 obtain⟨d2,rfl⟩:=Int.eq_ofNat_of_zero_le p2
 let hcl:T->T:=fun t=>match t with
  | .int k=>okv (bU [.scr ns,.int ((a:Int)+1+8*k)])
  | _=> .non
 have hh:∀ t∈rng 0 ((1+d1:Nat):Int),∃k:Nat,t= .int k/\bU [.scr ns,.int ((a+1+8*k:Nat):Int)] = .ok (hcl t)/\bn (hcl t)=true/\sm 8 (hcl t)=true:=fun t ht=>by
  obtain⟨k,rfl,_⟩:=rng_mem ht
  obtain⟨c,ec,h1,h2⟩:=e_dclock ns hn (a+1+8*k)
  have e:hcl (.int k)=c:=by
   show okv (bU [.scr ns,.int ((a+1+8*k:Nat):Int)])=c
   rw [ec];rfl
  exact⟨k,rfl,by rw [e];exact ec,by rw [e];exact h1,by rw [e];exact h2⟩
 generalize hcs:(rng 0 ((1+d1:Nat):Int)).map hcl=cs
 have lc:cs.length=1+d1:=by rw [<-hcs,List.length_map,fW]
 have hc:aU (.tup cs)=true:=by
  show(dN (.tup cs) 1 4&&cs.all bn)=true
  rw [Bool.and_eq_true,List.all_eq_true]
  refine⟨by simp [dN];omega,fun c h=> ?_⟩
  rw [<-hcs]at h
  obtain⟨t,ht,rfl⟩:=List.mem_map.mp h
  obtain⟨_,_,_,h1,_⟩:=hh t ht
  exact h1
 have hsm:∀ c∈cs,sm 8 c=true:=fun c h=>by
  rw [<-hcs]at h
  obtain⟨t,ht,rfl⟩:=List.mem_map.mp h
  obtain⟨_,_,_,_,h1⟩:=hh t ht
  exact h1
 obtain⟨ls,t5,t6,el,hl,nl⟩:=le_loop ns hn a (.int m) cs hc (List.range d2) [] .em .em (fun t h=>by cases h) (by simp;omega)
 refine⟨cs,ls,aY rfl ?_,hc,by omega,hsm,hl,by simp at nl;omega⟩
 show dt [.va (.scr ns),.va (.int a),.va (.int m),.em,.em,.em,.em] =_
 unfold dt
 have s1:b8 (cl gu (ac (fw (iR (ac (o2 aI (cn (.int 1)) (cl aq (ac (vr 0) (ac (vr 1) (ac (cn (.int 3)) ah))))) ah)) [none,some 0,some 1] (gN 0) bT (cl bU (ac (vr 1) (ac (o2 aI (o2 aI (vr 2) (cn (.int 1))) (o2 bM (cn (.int 8)) (vr 0))) ah)))) ah)) (gN 3) [.va (.scr ns),.va (.int a),.va (.int m),.em,.em,.em,.em] = .ok (.nx [.va (.scr ns),.va (.int a),.va (.int m),.va (.tup cs),.em,.em,.em]):=by
  refine bN (t:=.tup cs) (aL (ts:=[.lst cs]) (al (t:=.lst cs) ?_ rfl) rfl) rfl
  rw [<-hcs]
  refine k_lc (ts:=rng 0 ((1+d1:Nat):Int)) (h:=hcl) (iR1 (al (t:=.int ((1+d1:Nat):Int)) (aw (t:=.int 1) (u:=.int d1) rfl (dv e1 rfl rfl rfl) rfl) rfl) (by omega) (by omega)) (au (k:=3) (by rw [fW];omega)) (by simp) fun t ht=> ?_
  obtain⟨k,rfl,ek,_,_⟩:=hh t ht
  refine aL (ts:=[.scr ns,.int ((a+1+8*k:Nat):Int)]) (al (t:=.scr ns) rfl (al (aw (t:=.int ((a:Int)+1)) (u:=.int (8*(k:Int))) rfl (aw (t:=.int 8) (u:=.int k) rfl rfl (mul_l (by omega) (by omega))) rfl) rfl)) ek
 rw [ax s1]
 rw [ax (ρ':=[.va (.scr ns),.va (.int a),.va (.int m),.va (.tup cs),.va (.lst []),.em,.em]) (bN (eE (ts:=[]) rfl (au (k:=0) (by simp))) rfl)]
 rw [ax ((cT (iR1 (al (dv (k:=a+30) e2 rfl rfl (aw (t:=.int m) (u:=.int 1) rfl rfl rfl)) rfl) (by omega) (by omega)) (by rw [rng_nat];exact el)))]
 exact bB (cF (al (t:=.tup cs) rfl (al (t:=.tup ls) rfl rfl)) (au (k:=2) (by simp)))
theorem letter_shape {cs:List T}{t:T}(h:bp cs t=true):∃ a b x y,t= .tup [a,b,x,y]/\ee x y=true/\a9 cs a=true/\a9 cs b=true/\aW a b=false:=by
 unfold bp at h
 split at h
 ·simp only [Bool.and_eq_true,Bool.not_eq_true']at h
  exact⟨_,_,_,_,rfl,h.1,h.2.1,h.2.2.1,h.2.2.2⟩
 ·cases h
theorem rec_ok {cs ls:List T}(hc:aU (.tup cs)=true)(hs:∀ c∈cs,sm 8 c=true)(hl:LsOk cs ls)(hn:ls.length<=8):isRec (.tup [.tup cs,.tup ls])=true/\sm 8 (.tup [.tup cs,.tup ls])=true:=by
 refine⟨?_,?_⟩
 ·show(aU (.tup cs)&&(dN (.tup ls) 0 8&&ls.all (bp cs)))=true
  rw [hc,Bool.true_and,Bool.and_eq_true,List.all_eq_true]
  exact⟨by simp [dN];exact hn,fun t ht=>(hl t ht).1⟩
 ·refine sm_tup.mpr ⟨by simp,fun t ht=> ?_⟩
  simp only [List.mem_cons,List.not_mem_nil,or_false]at ht
  rcases ht with rfl | rfl
  ·exact sm_tup.mpr ⟨by have:=(cV hc).2.2;omega,hs⟩
  ·exact sm_tup.mpr ⟨hn,fun t ht=>(hl t ht).2⟩
end G
namespace Tr
open PySem
section
variable {f fa fb:En->Rs T}{fs:En->Rs (List T)}{b c:En->Rs Bool}{F G:En->Rs Fl}{ρ ρ' ρ1 ρ2:En}{t u r:T}{ts l m:List T}
mutual
theorem beqT_refl:∀ (t:T),t.pl=true->aW t t=true
 | .non,_=>rfl
 | .bl a,_=>by simp [aW]
 | .int a,_=>by simp [aW]
 | .str a,_=>by simp [aW]
 | .tup l,h=>by rw [aW];exact beqTs_refl l (by unfold T.pl at h;exact h)
 | .lst l,h=>by rw [aW];exact beqTs_refl l (by unfold T.pl at h;exact h)
 | .scr _,h=>by simp [T.pl]at h
theorem beqTs_refl:∀ (l:List T),plS l=true->beqTs l l=true
 | [],_=>rfl
 | t::l,h=>by
  unfold plS at h
  rw [Bool.and_eq_true]at h
  rw [beqTs,beqT_refl t h.1,beqTs_refl l h.2];rfl
end
theorem ne_same (hp:t.pl=true)(hd:t.dep<=60):neT t t= .ok (.bl false):=by
 unfold neT
 rw [if_pos (fP hd (T.pl_nd _ hp) (T.pl_nd _ hp)),beqT_refl t hp];rfl
theorem eq_same (hp:t.pl=true)(hd:t.dep<=60):eqT t t= .ok (.bl true):=by
 unfold eqT
 rw [if_pos (fP hd (T.pl_nd _ hp) (T.pl_nd _ hp)),beqT_refl t hp]
theorem plS_of:∀ {l:List T},(∀t∈l,t.pl=true)->plS l=true
 | [],_=>rfl
 | t::l,h=>by unfold plS;rw [h t List.mem_cons_self,plS_of fun u hu=>h u (List.mem_cons_of_mem _ hu)];rfl
end
end Tr
namespace G
open PySem Tr
def dr (r:List Int)(k:Nat):Int:=r.getD (k+1) 0 - r.getD k 0
def pr (n:Nat)(x y:Int)(r:List Int)(k:Nat):List T:=
 [.tup [.tup [.int n,.int k],.tup [.int n,.int ((k+1:Nat):Int)],.int (dr r k*y)],.tup [.tup [.int n,.int ((k+1:Nat):Int)],.tup [.int n,.int k],.int (-dr r k*x)]]
def cB (n:Nat)(x y:Int)(r:List Int):List T:=(List.range (r.length - 1)).flatMap (pr n x y r)
abbrev bcE (n:Nat)(x y:Int)(r:List Int)(acc:List T)(s4 s5 s6 s7:Sl):En:=[.va (.int n),.va (.tup [.int x,.int y,.tup (r.map .int)]),.va (.tup (r.map .int)),.ow (.lst acc),s4,s5,s6,s7]
abbrev bcF:En->Rs Fl:=(az (b8 (bi (ac (vr 0) (ac (vr 4) ah))) (gN 5)) (az (b8 (bi (ac (vr 0) (ac (o2 aI (vr 4) (cn (.int 1))) ah))) (gN 6)) (az (b8 (o2 dG (o2 aO (vr 2) (o2 aI (vr 4) (cn (.int 1)))) (o2 aO (vr 2) (vr 4))) (gN 7)) (az (sApp 3 (bi (ac (vr 5) (ac (vr 6) (ac (o2 bM (vr 7) (o2 aO (vr 1) (cn (.int 1)))) ah))))) (sApp 3 (bi (ac (vr 6) (ac (vr 5) (ac (o2 bM (o1 negT (vr 7)) (o2 aO (vr 1) (cn (.int 0)))) ah)))))))))
theorem get_map {r:List Int}{k:Nat}(h:k<r.length):(r.map T.int)[k]? =some (.int (r.getD k 0)):=by
 rw [List.getElem?_map,List.getElem?_eq_getElem h]
 simp [h]
theorem bc_step (n:Nat)(x y:Int)(r:List Int)(acc:List T)(k:Nat)(s5 s6 s7:Sl)(hk:k+1<r.length)(hx:0<=x/\x<=9)(hy:0<=y/\y<=9)(ha:acc.length<=100) :
  bcF (bcE n x y r acc (.va (.int k)) s5 s6 s7)= .ok (.nx (bcE n x y r (acc++pr n x y r k) (.va (.int k)) (.va (.tup [.int n,.int k])) (.va (.tup [.int n,.int ((k+1:Nat):Int)])) (.va (.int (dr r k))))):=by
 have h2:([T.int n,T.int k]:List T).length<=sizeLine:=au (k:=2) (by simp)
 have ek:((k:Int)+1)=((k+1:Nat):Int):=by omega
 refine(ax (ρ':=bcE n x y r acc (.va (.int k)) (.va (.tup [.int n,.int k])) s6 s7) (bN (cF rfl (au (k:=2) (by simp))) rfl)).trans ?_
 refine(ax (ρ':=bcE n x y r acc (.va (.int k)) (.va (.tup [.int n,.int k])) (.va (.tup [.int n,.int ((k+1:Nat):Int)])) s7) (bN (cF (al rfl (al (t:=.int ((k+1:Nat):Int)) (aw (t:=.int k) (u:=.int 1) rfl rfl (congrArg (fun z=>Rs.ok (T.int z)) ek)) rfl)) (au (k:=2) (by simp))) rfl)).trans ?_
 refine(ax (ρ':=bcE n x y r acc (.va (.int k)) (.va (.tup [.int n,.int k])) (.va (.tup [.int n,.int ((k+1:Nat):Int)])) (.va (.int (dr r k)))) (bN (t:=.int (dr r k)) (aw (t:=.int (r.getD (k+1) 0)) (u:=.int (r.getD k 0)) (k_ix (n:=k+1) rfl (aw (t:=.int k) (u:=.int 1) rfl rfl (congrArg (fun z=>Rs.ok (T.int z)) ek)) (get_map hk)) (k_ix (n:=k) rfl rfl (get_map (by omega))) rfl) rfl)).trans ?_
 refine(ax (ρ':=bcE n x y r (acc++ [.tup [.tup [.int n,.int k],.tup [.int n,.int ((k+1:Nat):Int)],.int (dr r k*y)]]) (.va (.int k)) (.va (.tup [.int n,.int k])) (.va (.tup [.int n,.int ((k+1:Nat):Int)])) (.va (.int (dr r k)))) (k_app (l:=acc) (cF (al rfl (al rfl (al (aw (t:=.int (dr r k)) (u:=.int y) rfl rfl (mul_r (by omega) (by omega))) rfl))) (au (k:=3) (by simp))) rfl (by omega))).trans ?_
 refine(k_app (l:=acc++ [.tup [.tup [.int n,.int k],.tup [.int n,.int ((k+1:Nat):Int)],.int (dr r k*y)]]) (cF (al rfl (al rfl (al (aw (t:=.int (-dr r k)) (u:=.int x) rfl rfl (mul_r (by omega) (by omega))) rfl))) (au (k:=3) (by simp))) rfl (by rw [List.length_append];simp;omega)).trans ?_
 rw [List.append_assoc]
 rfl
theorem bc_loop (n:Nat)(x y:Int)(r:List Int)(hx:0<=x/\x<=9)(hy:0<=y/\y<=9):∀ (js:List Nat) (acc:List T) (s4 s5 s6 s7:Sl),(∀k∈js,k+1<r.length)->acc.length+2*js.length<=100 →
  ∃t4 t5 t6 t7,aP (gN 4) bcF (js.map fun(k:Nat)=>T.int k) (bcE n x y r acc s4 s5 s6 s7)= .ok (.nx (bcE n x y r (acc++js.flatMap (pr n x y r)) t4 t5 t6 t7))
 | [],acc,s4,s5,s6,s7,_,_=>⟨s4,s5,s6,s7,by simp [aP]⟩
 | k::js,acc,s4,s5,s6,s7,hk,hl=>by
  rw [List.length_cons]at hl
  have e:=bc_step n x y r acc k s5 s6 s7 (hk k List.mem_cons_self) hx hy (by omega)
  obtain⟨t4,t5,t6,t7,ih⟩:=bc_loop n x y r hx hy js (acc++pr n x y r k) (.va (.int k)) (.va (.tup [.int n,.int k])) (.va (.tup [.int n,.int ((k+1:Nat):Int)])) (.va (.int (dr r k))) (fun j hj=>hk j (List.mem_cons_of_mem _ hj)) (by rw [List.length_append];simp [pr];omega)
  refine⟨t4,t5,t6,t7,?_⟩
  rw [List.map_cons,cy (ρ1:=bcE n x y r acc (.va (.int k)) s5 s6 s7) rfl e,ih,List.flatMap_cons,List.append_assoc]
theorem e_bclock (n:Nat)(x y:Int)(r:List Int)(hx:0<=x/\x<=9)(hy:0<=y/\y<=9)(h1:1<=r.length)(h4:r.length<=4):bS [.int n,.tup [.int x,.int y,.tup (r.map .int)]] = .ok (.lst (cB n x y r)):=by
 refine aY rfl ?_
 show b6 [.va (.int n),.va (.tup [.int x,.int y,.tup (r.map .int)]),.em,.em,.em,.em,.em,.em] =_
 unfold b6
 rw [ax (ρ':=[.va (.int n),.va (.tup [.int x,.int y,.tup (r.map .int)]),.va (.tup (r.map .int)),.em,.em,.em,.em,.em]) (bN (t:=.tup (r.map .int)) rfl rfl)]
 rw [ax (ρ':=bcE n x y r [] .em .em .em .em) rfl]
 obtain⟨t4,t5,t6,t7,e⟩:=bc_loop n x y r hx hy (List.range (r.length - 1)) [] .em .em .em .em (fun k hk=>by have:=List.mem_range.mp hk;omega) (by simp;omega)
 have e1:iR (ac (o2 dG (cl bV (ac (vr 2) ah)) (cn (.int 1))) ah) (bcE n x y r [] .em .em .em .em)= .ok (rng 0 ((r.length - 1:Nat):Int)):=by
  refine iR1 (j:=((r.length - 1:Nat):Int)) (al (aw (t:=.int (r.length:Nat)) (u:=.int 1) (aL (ts:=[.tup (r.map .int)]) rfl (by show Rs.ok (T.int ((r.map T.int).length:Nat))=_;rw [List.length_map])) rfl (congrArg (fun z=>Rs.ok (T.int z)) (by omega))) rfl) (by omega) (by omega)
 rw [ax ((cT (ts:=(List.range (r.length - 1)).map fun(k:Nat)=>T.int k) (by rw [e1,rng_nat]) e))]
 rfl
theorem gI {t:T}(h:bn t=true):∃ (x y:Int) (r:List Int),t= .tup [.int x,.int y,.tup (r.map .int)]/\(0<=x/\x<=9)/\(0<=y/\y<=9)/\1<=r.length/\r.length<=4:=by
 obtain⟨x,y,r,rfl,h1,h4⟩:=f9 h
 have h':(pace x y&&cN (.tup r))=true:=h
 rw [Bool.and_eq_true]at h'
 obtain⟨hp,hr⟩:=h'
 unfold pace at hp
 rw [Bool.and_eq_true]at hp
 obtain⟨i,rfl,i1,i2⟩:=cO hp.1
 obtain⟨j,rfl,j1,j2⟩:=cO (t:=y) (a:=i) (b:=9) hp.2
 unfold cN at hr
 rw [Bool.and_eq_true]at hr
 have hr2:((r.all fun u=>aK u 0 99)&&(match nums r with | some m=>ris m | none=>false))=true:=hr.2
 rw [Bool.and_eq_true]at hr2
 obtain⟨m,em⟩:=nums_of hr2.1
 have e:=nums_map em
 subst e
 rw [List.length_map]at h1 h4
 exact⟨i,j,m,rfl,⟨by omega,by omega⟩,⟨by omega,by omega⟩,h1,h4⟩
def xB (n:Nat)(t:T):List T:=match t with
 | .tup [.int x,.int y,.tup r] =>match nums r with
  | some m=>cB n x y m
  | none=> []
 | _=> []
def bC:Nat->List T->List T
 | _,[] => []
 | i,c::r=>xB i c++bC (i+1) r
def lB (t:T):List T:=match t with
 | .tup [a,b,.int le,mo] => .tup [b,a,.int (-le)] ::(if mo.isN then []else [.tup [a,b,mo]])
 | _=> []
def bds (cs ls:List T):List T:=bC 0 cs++ls.flatMap lB
theorem xB_is (n:Nat)(x y:Int)(r:List Int):xB n (.tup [.int x,.int y,.tup (r.map .int)])=cB n x y r:=by
 unfold xB
 simp only [nums_int]
theorem cB_len (n:Nat)(x y:Int)(r:List Int):(cB n x y r).length=2*(r.length - 1):=by
 unfold cB
 rw [List.length_flatMap]
 have:∀ l:List Nat,(l.map fun k=>(pr n x y r k).length).sum=2*l.length:=by
  intro l
  induction l with
  | nil=>rfl
  | cons a l ih=>rw [List.map_cons,List.sum_cons,ih,List.length_cons];simp [pr];omega
 rw [this,List.length_range]
theorem xB_len {n:Nat}{t:T}(h:bn t=true):(xB n t).length<=6:=by
 obtain⟨x,y,r,rfl,_,_,h1,h4⟩:=gI h
 rw [xB_is,cB_len];omega
theorem bC_len:∀ {cs:List T} {i:Nat},(∀c∈cs,bn c=true)->(bC i cs).length<=6*cs.length
 | [],i,_=>by simp [bC]
 | c::cs,i,h=>by
  rw [bC,List.length_append,List.length_cons]
  have:=xB_len (n:=i) (h c List.mem_cons_self)
  have:=bC_len (cs:=cs) (i:=i+1) fun c hc=>h c (List.mem_cons_of_mem _ hc)
  omega
theorem lB_len (t:T):(lB t).length<=2:=by
 unfold lB
 split
 ·rename_i a b le mo
  cases mo.isN <;> simp
 ·simp
theorem lBs_len:∀ (ls:List T),(ls.flatMap lB).length<=2*ls.length
 | [] =>by simp
 | t::ls=>by
  rw [List.flatMap_cons,List.length_append,List.length_cons]
  have:=lB_len t
  have:=lBs_len ls
  omega
theorem letter_ints {cs:List T}{t:T}(h:bp cs t=true):∃ (a b mo:T) (le:Int),t= .tup [a,b,.int le,mo]/\a9 cs a=true/\a9 cs b=true:=by
 obtain⟨a,b,x,y,rfl,hd,ha,hb,_⟩:=letter_shape h
 unfold ee at hd
 rw [Bool.and_eq_true]at hd
 obtain⟨i,rfl,_⟩:=cO hd.1
 exact⟨a,b,y,i,rfl,ha,hb⟩
theorem e_bletter {cs:List T}{t:T}(h:bp cs t=true):bP [t] = .ok (.lst (lB t)):=by
 obtain⟨a,b,mo,le,rfl,_,_⟩:=letter_ints h
 refine aY rfl ?_
 show bQ [.va (.tup [a,b,.int le,mo]),.em] =_
 unfold bQ
 rw [ax (ρ':=[.va (.tup [a,b,.int le,mo]),.ow (.lst [.tup [b,a,.int (-le)]])]) (k_newL (l:=[.tup [b,a,.int (-le)]]) (al (cF (al rfl (al rfl (al rfl rfl))) (au (k:=3) (by simp))) rfl) (by simp) (by simp))]
 have e:∀ (ρ:En) l,ρ= [.va (.tup [a,b,.int le,mo]),.ow (.lst l)]->o2 cM (o2 aO (vr 0) (cn (.int 3))) (cn .non) ρ= .ok (.bl (!mo.isN)):=fun ρ l z=>by subst z;rfl
 have e2:lB (.tup [a,b,.int le,mo])= .tup [b,a,.int (-le)] ::(if mo.isN then []else [.tup [a,b,mo]]):=rfl
 rw [e2]
 cases q:mo.isN with
 | true=>
  rw [ax (ρ':=[.va (.tup [a,b,.int le,mo]),.ow (.lst [.tup [b,a,.int (-le)]])]) ((cG (a8 (by rw [e _ _ rfl,q];rfl))).trans rfl)]
  rfl
 | false=>
  rw [ax (ρ':=[.va (.tup [a,b,.int le,mo]),.ow (.lst ([.tup [b,a,.int (-le)]] ++ [.tup [a,b,mo]]))]) ((ck (a8 (by rw [e _ _ rfl,q];rfl))).trans (k_app (l:=[.tup [b,a,.int (-le)]]) (cF (al rfl (al rfl (al rfl rfl))) (au (k:=3) (by simp))) rfl (by simp)))]
  rfl
abbrev bdF:En->Rs Fl:=sExt 1 (cl bS (ac (vr 2) (ac (vr 3) ah)))
abbrev bdG:T->En->Rs En:=gT 2 (eR (gN 2) (eR (gN 3) gsN))
theorem bd_loop (R:T)(s4:Sl):∀ (cs:List T) (acc:List T) (i:Nat) (s2 s3:Sl),(∀c∈cs,bn c=true)->acc.length+6*cs.length<=100 →
  ∃y2 y3,aP bdG bdF (ba i cs) [.va R,.ow (.lst acc),s2,s3,s4] = .ok (.nx [.va R,.ow (.lst (acc++bC i cs)),y2,y3,s4])
 | [],acc,i,s2,s3,_,_=>⟨s2,s3,by simp [ba,aP,bC]⟩
 | c::cs,acc,i,s2,s3,hc,hl=>by
  have h0:=hc c List.mem_cons_self
  have hx:=xB_len (n:=i) h0
  obtain⟨x,y,r,rfl,a1,a2,a3,a4⟩:=gI h0
  rw [List.length_cons]at hl
  rw [xB_is]at hx
  have st:bdF [.va R,.ow (.lst acc),.va (.int i),.va (.tup [.int x,.int y,.tup (r.map .int)]),s4] = .ok (.nx [.va R,.ow (.lst (acc++cB i x y r)),.va (.int i),.va (.tup [.int x,.int y,.tup (r.map .int)]),s4]):=
   k_ext (l:=acc) (aL (ts:=[.int i,.tup [.int x,.int y,.tup (r.map .int)]]) rfl (e_bclock i x y r a1 a2 a3 a4)) rfl (by omega)
  obtain⟨z2,z3,ih⟩:=bd_loop R s4 cs (acc++cB i x y r) (i+1) (.va (.int i)) (.va (.tup [.int x,.int y,.tup (r.map .int)])) (fun c h=>hc c (List.mem_cons_of_mem _ h)) (by rw [List.length_append];omega)
  refine⟨z2,z3,?_⟩
  rw [ba,cy (ρ1:=[.va R,.ow (.lst acc),.va (.int i),.va (.tup [.int x,.int y,.tup (r.map .int)]),s4]) rfl st,ih,bC,xB_is,List.append_assoc]
abbrev blF:En->Rs Fl:=sExt 1 (cl bP (ac (vr 4) ah))
theorem bl_loop (R:T)(cs:List T)(s2 s3:Sl):∀ (ls:List T) (acc:List T) (s4:Sl),(∀t∈ls,bp cs t=true)->acc.length+2*ls.length<=100 →
  ∃y4,aP (gN 4) blF ls [.va R,.ow (.lst acc),s2,s3,s4] = .ok (.nx [.va R,.ow (.lst (acc++ls.flatMap lB)),s2,s3,y4])
 | [],acc,s4,_,_=>⟨s4,by simp [aP]⟩
 | t::ls,acc,s4,hl,hn=>by
  rw [List.length_cons]at hn
  have:=lB_len t
  have st:blF [.va R,.ow (.lst acc),s2,s3,.va t] = .ok (.nx [.va R,.ow (.lst (acc++lB t)),s2,s3,.va t]):=k_ext (l:=acc) (aL (ts:=[t]) rfl (e_bletter (hl t List.mem_cons_self))) rfl (by omega)
  obtain⟨y4,ih⟩:=bl_loop R cs s2 s3 ls (acc++lB t) (.va t) (fun u h=>hl u (List.mem_cons_of_mem _ h)) (by rw [List.length_append];omega)
  refine⟨y4,?_⟩
  rw [cy (ρ1:=[.va R,.ow (.lst acc),s2,s3,.va t]) rfl st,ih,List.flatMap_cons,List.append_assoc]
theorem need_rec {R:T}(hp:R.pl=true)(h:isRec R=true):b9 [R] = .ok .non:=by
 refine k_valn (ρ:=[.va R]) rfl ?_
 show cf [.va R] =_
 unfold cf
 exact(cG ((c8 (k:=true) (a8 (aL (ts:=[R]) rfl (by rw [e_record R hp,h])))))).trans rfl
theorem need_rec0 {R:T}(hp:R.pl=true)(h:isRec R=false):b9 [R] = .err "NoRecord":=by
 refine k_vale rfl ?_
 show cf [.va R] =_
 unfold cf
 exact(ck ((c8 (k:=false) (a8 (aL (ts:=[R]) rfl (by rw [e_record R hp,h])))))).trans rfl
structure Good (cs ls:List T):Prop where
 c:aU (.tup cs)=true
 l:∀ t∈ls,bp cs t=true
 n:ls.length<=8
 p:(T.tup [.tup cs,.tup ls]).pl=true
theorem Good.ok {cs ls:List T}(g:Good cs ls):isRec (.tup [.tup cs,.tup ls])=true:=by
 show(aU (.tup cs)&&(dN (.tup ls) 0 8&&ls.all (bp cs)))=true
 rw [g.c,Bool.true_and,Bool.and_eq_true,List.all_eq_true]
 exact⟨by simp [dN];exact g.n,g.l⟩
theorem e_bounds {cs ls:List T}(g:Good cs ls):di [.tup [.tup cs,.tup ls]] = .ok (.lst (bds cs ls)):=by
 obtain⟨hc,c1,c4⟩:=cV g.c
 have hn:=g.n
 refine aY rfl ?_
 show fR [.va (.tup [.tup cs,.tup ls]),.em,.em,.em,.em] =_
 unfold fR
 rw [ax (k_ex (t:=.non) (aL (ts:=[.tup [.tup cs,.tup ls]]) rfl (need_rec g.p g.ok)))]
 rw [ax (ρ':=[.va (.tup [.tup cs,.tup ls]),.ow (.lst []),.em,.em,.em]) (k_new0 (by simp))]
 obtain⟨y2,y3,e⟩:=bd_loop (.tup [.tup cs,.tup ls]) .em cs [] 0 .em .em hc (by simp;omega)
 rw [ax ((cT (ts:=ba 0 cs) rfl e))]
 have:=bC_len (i:=0) hc
 obtain⟨y4,e2⟩:=bl_loop (.tup [.tup cs,.tup ls]) cs y2 y3 ls ([] ++bC 0 cs) .em g.l (by rw [List.nil_append];omega)
 rw [ax ((cT (ts:=ls) rfl e2))]
 rfl
abbrev lkE (R:T)(acc:List T)(n:Nat)(x y:Int)(r:List Int)(s6 s7 s8 s9 s10 s11:Sl):En:=[.va R,.ow (.lst acc),.va (.int n),.va (.int x),.va (.int y),.va (.tup (r.map .int)),s6,s7,s8,s9,s10,s11]
abbrev lkF:En->Rs Fl:=(az (b8 (o2 dG (o2 aO (vr 5) (vr 6)) (o2 aO (vr 5) (o2 dG (vr 6) (cn (.int 1))))) (gN 7)) (az (sApp 1 (bi (ac (bi (ac (vr 2) (ac (o2 dG (vr 6) (cn (.int 1))) ah))) (ac (bi (ac (vr 2) (ac (vr 6) ah))) (ac (o2 bM (vr 4) (vr 7)) ah))))) (sApp 1 (bi (ac (bi (ac (vr 2) (ac (vr 6) ah))) (ac (bi (ac (vr 2) (ac (o2 dG (vr 6) (cn (.int 1))) ah))) (ac (o2 dG (cn (.int 0)) (o2 bM (vr 3) (vr 7))) ah)))))))
theorem lk_step (R:T)(n:Nat)(x y:Int)(r:List Int)(acc:List T)(k:Nat)(s7 s8 s9 s10 s11:Sl)(hk:k+1<r.length)(hx:0<=x/\x<=9)(hy:0<=y/\y<=9)(ha:acc.length<=100) :
  lkF (lkE R acc n x y r (.va (.int ((k+1:Nat):Int))) s7 s8 s9 s10 s11)= .ok (.nx (lkE R (acc++pr n x y r k) n x y r (.va (.int ((k+1:Nat):Int))) (.va (.int (dr r k))) s8 s9 s10 s11)):=by
 have sb:∀ acc s7,o2 dG (vr 6) (cn (.int 1)) (lkE R acc n x y r (.va (.int ((k+1:Nat):Int))) s7 s8 s9 s10 s11)= .ok (.int k):=fun acc s7=>aw (t:=.int ((k+1:Nat):Int)) (u:=.int 1) rfl rfl (congrArg (fun z=>Rs.ok (T.int z)) (by omega))
 refine(ax (ρ':=lkE R acc n x y r (.va (.int ((k+1:Nat):Int))) (.va (.int (dr r k))) s8 s9 s10 s11) (bN (t:=.int (dr r k)) (aw (t:=.int (r.getD (k+1) 0)) (u:=.int (r.getD k 0)) (k_ix (n:=k+1) rfl rfl (get_map hk)) (k_ix (n:=k) rfl (sb acc s7) (get_map (by omega))) rfl) rfl)).trans ?_
 refine(ax (ρ':=lkE R (acc++ [.tup [.tup [.int n,.int k],.tup [.int n,.int ((k+1:Nat):Int)],.int (dr r k*y)]]) n x y r (.va (.int ((k+1:Nat):Int))) (.va (.int (dr r k))) s8 s9 s10 s11) (k_app (l:=acc) (cF (al (cF (al rfl (al (sb _ _) rfl)) (au (k:=2) (by simp))) (al (cF rfl (au (k:=2) (by simp))) (al (aw (t:=.int y) (u:=.int (dr r k)) rfl rfl ((mul_l (by omega) (by omega)).trans (by rw [Int.mul_comm]))) rfl))) (au (k:=3) (by simp))) rfl (by omega))).trans ?_
 refine(k_app (l:=acc++ [.tup [.tup [.int n,.int k],.tup [.int n,.int ((k+1:Nat):Int)],.int (dr r k*y)]]) (t:=.tup [.tup [.int n,.int ((k+1:Nat):Int)],.tup [.int n,.int k],.int (-dr r k*x)]) (cF (al (cF rfl (au (k:=2) (by simp))) (al (cF (al rfl (al (sb _ _) rfl)) (au (k:=2) (by simp))) (al (aw (t:=.int 0) (u:=.int (x*dr r k)) rfl (aw (t:=.int x) (u:=.int (dr r k)) rfl rfl (mul_l (by omega) (by omega))) (congrArg (fun z=>Rs.ok (T.int z)) (by rw [Int.neg_mul,Int.mul_comm x,Int.zero_sub]))) rfl))) (au (k:=3) (by simp))) rfl (by rw [List.length_append];simp;omega)).trans ?_
 rw [List.append_assoc]
 rfl
theorem lk_loop (R:T)(n:Nat)(x y:Int)(r:List Int)(s8 s9 s10 s11:Sl)(hx:0<=x/\x<=9)(hy:0<=y/\y<=9):∀ (js:List Nat) (acc:List T) (s6 s7:Sl),(∀k∈js,k+1<r.length)->acc.length+2*js.length<=100 →
  ∃t6 t7,aP (gN 6) lkF (js.map fun(k:Nat)=>T.int ((k+1:Nat):Int)) (lkE R acc n x y r s6 s7 s8 s9 s10 s11)= .ok (.nx (lkE R (acc++js.flatMap (pr n x y r)) n x y r t6 t7 s8 s9 s10 s11))
 | [],acc,s6,s7,_,_=>⟨s6,s7,by simp [aP]⟩
 | k::js,acc,s6,s7,hk,hl=>by
  rw [List.length_cons]at hl
  have e:=lk_step R n x y r acc k s7 s8 s9 s10 s11 (hk k List.mem_cons_self) hx hy (by omega)
  obtain⟨t6,t7,ih⟩:=lk_loop R n x y r s8 s9 s10 s11 hx hy js (acc++pr n x y r k) (.va (.int ((k+1:Nat):Int))) (.va (.int (dr r k))) (fun j hj=>hk j (List.mem_cons_of_mem _ hj)) (by rw [List.length_append];simp [pr];omega)
  refine⟨t6,t7,?_⟩
  rw [List.map_cons,cy (ρ1:=lkE R acc n x y r (.va (.int ((k+1:Nat):Int))) s7 s8 s9 s10 s11) rfl e,ih,List.flatMap_cons,List.append_assoc]
theorem rng_one (n:Nat)(h:1<=n):rng 1 (n:Int)=(List.range (n - 1)).map fun(k:Nat)=>T.int ((k+1:Nat):Int):=by
 unfold rng
 have:((n:Int) - 1).toNat=n - 1:=by omega
 rw [this]
 exact List.map_congr_left fun k _=>congrArg T.int (by omega)
theorem iR2 {f:En->Rs (List T)}{ρ:En}{i j:Int}(h:f ρ= .ok [.int i,.int j])(h0:0<=i)(h1:i<=100000)(h2:0<=j)(h3:j<=100000):iR f ρ= .ok (rng i j):=by
 unfold iR
 rw [h]
 have e:(i62 i&&i62 j)=true:=by unfold i62;simp;omega
 show(if (i62 i&&i62 j)=true then _ else _)=_
 rw [e];rfl
abbrev lcFo:En->Rs Fl:=(dy (iR (ac (cn (.int 1)) (ac (cl bV (ac (vr 5) ah)) ah))) (gN 6) lkF)
abbrev lcG:T->En->Rs En:=gT 2 (eR (gN 2) (eR (gT 3 (eR (gN 3) (eR (gN 4) (eR (gN 5) gsN)))) gsN))
theorem lc_loop (R:T)(s8 s9 s10 s11:Sl):∀ (cs:List T) (acc:List T) (i:Nat) (s2 s3 s4 s5 s6 s7:Sl),(∀c∈cs,bn c=true)->acc.length+6*cs.length<=90 →
  ∃y2 y3 y4 y5 y6 y7,aP lcG lcFo (ba i cs) [.va R,.ow (.lst acc),s2,s3,s4,s5,s6,s7,s8,s9,s10,s11] = .ok (.nx [.va R,.ow (.lst (acc++bC i cs)),y2,y3,y4,y5,y6,y7,s8,s9,s10,s11])
 | [],acc,i,s2,s3,s4,s5,s6,s7,_,_=>⟨s2,s3,s4,s5,s6,s7,by simp [ba,aP,bC]⟩
 | c::cs,acc,i,s2,s3,s4,s5,s6,s7,hc,hl=>by
  have h0:=hc c List.mem_cons_self
  have hx:=xB_len (n:=i) h0
  obtain⟨x,y,r,rfl,a1,a2,a3,a4⟩:=gI h0
  rw [List.length_cons]at hl
  rw [xB_is]at hx
  obtain⟨t6,t7,e⟩:=lk_loop R i x y r s8 s9 s10 s11 a1 a2 (List.range (r.length - 1)) acc s6 s7 (fun k hk=>by have:=List.mem_range.mp hk;omega) (by rw [List.length_range];omega)
  have e1:iR (ac (cn (.int 1)) (ac (cl bV (ac (vr 5) ah)) ah)) (lkE R acc i x y r s6 s7 s8 s9 s10 s11)= .ok (rng 1 (r.length:Nat)):=
   iR2 (i:=1) (j:=(r.length:Nat)) (al rfl (al (aL (ts:=[.tup (r.map .int)]) rfl (by show Rs.ok (T.int ((r.map T.int).length:Nat))=_;rw [List.length_map])) rfl)) (by omega) (by omega) (by omega) (by omega)
  have st:lcFo (lkE R acc i x y r s6 s7 s8 s9 s10 s11)= .ok (.nx (lkE R (acc++cB i x y r) i x y r t6 t7 s8 s9 s10 s11)):=(cT (ts:=(List.range (r.length - 1)).map fun(k:Nat)=>T.int ((k+1:Nat):Int)) (by rw [e1,rng_one _ a3]) e)
  obtain⟨z2,z3,z4,z5,z6,z7,ih⟩:=lc_loop R s8 s9 s10 s11 cs (acc++cB i x y r) (i+1) (.va (.int i)) (.va (.int x)) (.va (.int y)) (.va (.tup (r.map .int))) t6 t7 (fun c h=>hc c (List.mem_cons_of_mem _ h)) (by rw [List.length_append];omega)
  refine⟨z2,z3,z4,z5,z6,z7,?_⟩
  rw [ba,cy (ρ1:=lkE R acc i x y r s6 s7 s8 s9 s10 s11) rfl st,ih,bC,xB_is,List.append_assoc]
abbrev llF:En->Rs Fl:=(az (sApp 1 (bi (ac (vr 9) (ac (vr 8) (ac (o2 dG (cn (.int 0)) (vr 10)) ah))))) (fo (tb (o2 cM (vr 11) (cn .non))) (sApp 1 (bi (ac (vr 8) (ac (vr 9) (ac (vr 11) ah))))) sN))
abbrev llG:T->En->Rs En:=gT 4 (eR (gN 8) (eR (gN 9) (eR (gN 10) (eR (gN 11) gsN))))
theorem ll_loop (R:T)(cs:List T)(s2 s3 s4 s5 s6 s7:Sl):∀ (ls:List T) (acc:List T) (s8 s9 s10 s11:Sl),(∀t∈ls,bp cs t=true)->acc.length+2*ls.length<=100 →
  ∃y8 y9 y10 y11,aP llG llF ls [.va R,.ow (.lst acc),s2,s3,s4,s5,s6,s7,s8,s9,s10,s11] = .ok (.nx [.va R,.ow (.lst (acc++ls.flatMap lB)),s2,s3,s4,s5,s6,s7,y8,y9,y10,y11])
 | [],acc,s8,s9,s10,s11,_,_=>⟨s8,s9,s10,s11,by simp [aP]⟩
 | t::ls,acc,s8,s9,s10,s11,hl,hn=>by
  rw [List.length_cons]at hn
  have hlb:=lB_len t
  obtain⟨a,b,mo,le,rfl,_,_⟩:=letter_ints (hl t List.mem_cons_self)
  have e2:lB (.tup [a,b,.int le,mo])= .tup [b,a,.int (-le)] ::(if mo.isN then []else [.tup [a,b,mo]]):=rfl
  have e:∀ l,o2 cM (vr 11) (cn .non) [.va R,.ow (.lst l),s2,s3,s4,s5,s6,s7,.va a,.va b,.va (.int le),.va mo] = .ok (.bl (!mo.isN)):=fun l=>rfl
  have st:llF [.va R,.ow (.lst acc),s2,s3,s4,s5,s6,s7,.va a,.va b,.va (.int le),.va mo] = .ok (.nx [.va R,.ow (.lst (acc++lB (.tup [a,b,.int le,mo]))),s2,s3,s4,s5,s6,s7,.va a,.va b,.va (.int le),.va mo]):=by
   refine(ax (ρ':=[.va R,.ow (.lst (acc++ [.tup [b,a,.int (-le)]])),s2,s3,s4,s5,s6,s7,.va a,.va b,.va (.int le),.va mo]) (k_app (l:=acc) (t:=.tup [b,a,.int (-le)]) (cF (al rfl (al rfl (al (aw (t:=.int 0) (u:=.int le) rfl rfl (congrArg (fun z=>Rs.ok (T.int z)) (Int.zero_sub le))) rfl))) (au (k:=3) (by simp))) rfl (by omega))).trans ?_
   rw [e2]
   cases q:mo.isN with
   | true=>exact(cG (a8 (by rw [e,q];rfl))).trans rfl
   | false=>
    refine(ck (a8 (by rw [e,q];rfl))).trans ((k_app (l:=acc++ [.tup [b,a,.int (-le)]]) (t:=.tup [a,b,mo]) (cF (al rfl (al rfl (al rfl rfl))) (au (k:=3) (by simp))) rfl (by rw [List.length_append];simp;omega)).trans ?_)
    rw [List.append_assoc]
    rfl
  obtain⟨y8,y9,y10,y11,ih⟩:=ll_loop R cs s2 s3 s4 s5 s6 s7 ls (acc++lB (.tup [a,b,.int le,mo])) (.va a) (.va b) (.va (.int le)) (.va mo) (fun u h=>hl u (List.mem_cons_of_mem _ h)) (by rw [List.length_append];omega)
  refine⟨y8,y9,y10,y11,?_⟩
  rw [cy (ρ1:=[.va R,.ow (.lst acc),s2,s3,s4,s5,s6,s7,.va a,.va b,.va (.int le),.va mo]) rfl st,ih,List.flatMap_cons,List.append_assoc]
theorem e_lbounds {cs ls:List T}(hcs:aU (.tup cs)=true)(hls:∀ t∈ls,bp cs t=true)(hn:ls.length<=8):d9 [.tup [.tup cs,.tup ls]] = .ok (.lst (bds cs ls)):=by
 obtain⟨hc,c1,c4⟩:=cV hcs
 refine aY rfl ?_
 show du [.va (.tup [.tup cs,.tup ls]),.em,.em,.em,.em,.em,.em,.em,.em,.em,.em,.em] =_
 unfold du
 rw [ax (ρ':=[.va (.tup [.tup cs,.tup ls]),.ow (.lst []),.em,.em,.em,.em,.em,.em,.em,.em,.em,.em]) (k_new0 (by simp))]
 obtain⟨y2,y3,y4,y5,y6,y7,e⟩:=lc_loop (.tup [.tup cs,.tup ls]) .em .em .em .em cs [] 0 .em .em .em .em .em .em hc (by simp;omega)
 rw [ax ((cT (ts:=ba 0 cs) rfl e))]
 have:=bC_len (i:=0) hc
 obtain⟨y8,y9,y10,y11,e2⟩:=ll_loop (.tup [.tup cs,.tup ls]) cs y2 y3 y4 y5 y6 y7 ls ([] ++bC 0 cs) .em .em .em .em hls (by rw [List.nil_append];omega)
 rw [ax ((cT (ts:=ls) rfl e2))]
 rfl
theorem pl_tup {l:List T}:(T.tup l).pl=plS l:=by unfold T.pl;rfl
theorem r0:hRef "NoRecord" = .ok (gw 0):=by unfold hRef;rw [if_pos rfl]
theorem r1:hRef "NoEvent" = .ok (gw 1):=by unfold hRef;rw [if_neg (by decide),if_pos rfl]
theorem r2:hRef "NoNumber" = .ok (gw 2):=by unfold hRef;rw [if_neg (by decide),if_neg (by decide),if_pos rfl]
theorem pick_at {l:List T}{r:Int}(h0:0<=r)(h1:r<l.length):∃ t∈l,aO (.lst l) (.int r)= .ok t:=by
 obtain⟨n,rfl⟩:=Int.eq_ofNat_of_zero_le h0
 have hn:n<l.length:=by omega
 exact⟨l[n],List.getElem_mem hn,ix_lst hn⟩
theorem sm_plT {t:T}(h:sm 8 t=true):t.pl=true:=sm_pl t h
abbrev peF:En->Rs Fl:=sExt 1 (fw (iR (ac (cl bV (ac (o2 aO (vr 3) (cn (.int 2))) ah)) ah)) [none,some 2] (gN 0) bT (bi (ac (vr 1) (ac (vr 0) ah))))
theorem pe_lc (c0 s1:Sl)(x y:T)(r:List T)(i:Nat)(h:r.length<=4) :
  fw (iR (ac (cl bV (ac (o2 aO (vr 3) (cn (.int 2))) ah)) ah)) [none,some 2] (gN 0) bT (bi (ac (vr 1) (ac (vr 0) ah))) [c0,s1,.va (.int i),.va (.tup [x,y,.tup r])] = .ok (.lst (evOf i r.length)):=
 k_lc (iR1 (j:=(r.length:Int)) rfl (by omega) (by omega)) (au (k:=4) (by rw [fW];exact h)) (by simp) fun t _=>mk2 _ _
theorem pe_loop:∀ (cs:List T) (c0:T) (acc:List T) (i:Nat) (s2 s3:Sl),(∀c∈cs,bn c=true)->acc.length+4*cs.length<=100 →
  ∃y2 y3,aP evG peF (ba i cs) [.va c0,.ow (.lst acc),s2,s3] = .ok (.nx [.va c0,.ow (.lst (acc++eF i cs)),y2,y3])
 | [],c0,acc,i,s2,s3,_,_=>⟨s2,s3,by simp [ba,aP,eF]⟩
 | c::cs,c0,acc,i,s2,s3,hc,hl=>by
  obtain⟨x,y,r,rfl,r1,r2⟩:=f9 (hc c List.mem_cons_self)
  rw [List.length_cons]at hl
  have st:peF [.va c0,.ow (.lst acc),.va (.int i),.va (.tup [x,y,.tup r])] = .ok (.nx [.va c0,.ow (.lst (acc++evOf i r.length)),.va (.int i),.va (.tup [x,y,.tup r])]):=k_ext (l:=acc) (pe_lc _ _ x y r i r2) rfl (by rw [evOf_len];omega)
  obtain⟨z2,z3,ih⟩:=pe_loop cs c0 (acc++evOf i r.length) (i+1) (.va (.int i)) (.va (.tup [x,y,.tup r])) (fun c h=>hc c (List.mem_cons_of_mem _ h)) (by rw [List.length_append,evOf_len];omega)
  refine⟨z2,z3,?_⟩
  rw [ba,cy (ρ1:=[.va c0,.ow (.lst acc),.va (.int i),.va (.tup [x,y,.tup r])]) rfl st,ih,eF,List.append_assoc]
  rfl
theorem p_events {cs ls:List T}(g:Good cs ls):fM [.tup [.tup cs,.tup ls]] = .ok (.lst (eF 0 cs)):=by
 obtain⟨hc,c1,c4⟩:=cV g.c
 refine aY rfl ?_
 show F_events [.va (.tup [.tup cs,.tup ls]),.em,.em,.em] =_
 unfold F_events
 rw [ax (k_ex (t:=.non) (aL (ts:=[.tup [.tup cs,.tup ls]]) rfl (need_rec g.p g.ok)))]
 rw [ax (ρ':=[.va (.tup [.tup cs,.tup ls]),.ow (.lst []),.em,.em]) (k_new0 (by simp))]
 obtain⟨y2,y3,e⟩:=pe_loop cs (.tup [.tup cs,.tup ls]) [] 0 .em .em hc (by simp;omega)
 rw [ax ((cT (ts:=ba 0 cs) rfl e))]
 rfl
theorem loop_pass {g:T->En->Rs En}{F:En->Rs Fl}(J:En->Prop){ts:List T}(h:∀ t∈ts,∀ρ,J ρ->∃ ρ1 ρ2,g t ρ= .ok ρ1/\F ρ1= .ok (.nx ρ2)/\J ρ2){ρ:En}(hj:J ρ):∃ ρ',aP g F ts ρ= .ok (.nx ρ')/\J ρ':=
 (loop_all (p:=fun _=>true) J ts (fun t ht ρ hj=>by
  obtain⟨ρ1,ρ2,a,b,c⟩:=h t ht ρ hj
  exact⟨ρ1,a,fun _=>⟨ρ2,b,c⟩,fun h=>by cases h⟩) ρ hj).1 (by simp)
theorem p2 {a b:En->Rs T}{t u:T}{ρ:En}(ha:a ρ= .ok t)(hb:b ρ= .ok u):bi (ac a (ac b ah)) ρ= .ok (.tup [t,u]):=cF (al ha (al hb rfl)) (au (k:=2) (by simp))
theorem bds_len {cs ls:List T}(g:Good cs ls):(bds cs ls).length<=60:=by
 unfold bds
 rw [List.length_append]
 obtain⟨hc,c1,c4⟩:=cV g.c
 have:=bC_len (i:=0) hc
 have:=lBs_len ls
 have:=g.n
 omega
end G
namespace Gr
variable {ν:Type}[DecidableEq ν]
abbrev br (ν:Type):=List (ν×ν×Int)
inductive Wk (L:br ν):ν->ν->Int->Prop
 | nil (a:ν):Wk L a a 0
 | step {a b c:ν} {m s:Int}:(a,b,m)∈L->Wk L b c s->Wk L a c (m+s)
theorem Wk.one {L:br ν}{a b:ν}{m:Int}(h:(a,b,m)∈L):Wk L a b m:=by
 have:=Wk.step h (Wk.nil (L:=L) b)
 rwa [Int.add_zero]at this
theorem Wk.app {L:br ν}{a b c:ν}{s t:Int}(h:Wk L a b s)(k:Wk L b c t):Wk L a c (s+t):=by
 induction h with
 | nil a=>rwa [Int.zero_add]
 | step e _ ih=>rw [Int.add_assoc];exact .step e (ih k)
def Holds (L:br ν)(t:ν->Int):Prop:=∀ a b m,(a,b,m)∈L->t b - t a<=m
theorem Holds.walk {L:br ν}{t:ν->Int}(h:Holds L t){a b:ν}{s:Int}(w:Wk L a b s):t b - t a<=s:=by
 induction w with
 | nil a=>omega
 | step e _ ih=>have:=h _ _ _ e;omega
def NoNeg (L:br ν):Prop:=∀ a s,Wk L a a s->0<=s
theorem Holds.noNeg {L:br ν}{t:ν->Int}(h:Holds L t):NoNeg L:=fun a s w=>by have:=h.walk w;omega
def Ch (L:br ν):ν->List Nat->ν->Prop
 | a,[],b=>a=b
 | a,k::r,b=> ∃c m,L[k]? =some (a,c,m)/\Ch L c r b
def most (L:br ν)(k:Nat):Int:=match L[k]? with
 | some x=>x.2.2
 | none=>0
def cu (L:br ν):List Nat->Int
 | [] =>0
 | k::r=>most L k+cu L r
theorem cost_app (L:br ν):∀ (p q:List Nat),cu L (p++q)=cu L p+cu L q
 | [],q=>by simp [cu]
 | k::p,q=>by rw [List.cons_append,cu,cu,cost_app L p q];omega
theorem Ch.wk {L:br ν}:∀ {ks:List Nat} {a b:ν},Ch L a ks b->Wk L a b (cu L ks)
 | [],a,b,h=>by cases h;exact .nil a
 | k::r,a,b,⟨c,m,e,h⟩=>by
  have:cu L (k::r)=m+cu L r:=by rw [cu,most,e]
  rw [this]
  exact .step (List.mem_of_getElem? e) h.wk
theorem Ch.app {L:br ν}:∀ {p q:List Nat} {a b c:ν},Ch L a p b->Ch L b q c->Ch L a (p++q) c
 | [],q,a,b,c,h,k=>by cases h;exact k
 | x::p,q,a,b,c,⟨d,m,e,h⟩,k=>⟨d,m,e,Ch.app h k⟩
theorem Ch.lt {L:br ν}:∀ {ks:List Nat} {a b:ν},Ch L a ks b->∀ k∈ks,k<L.length
 | [],_,_,_,k,hk=>by simp at hk
 | x::r,a,b,⟨c,m,e,h⟩,k,hk=>by
  rcases List.mem_cons.mp hk with rfl | hk
  ·exact(List.getElem?_eq_some_iff.mp e).1
  ·exact h.lt k hk
theorem Ch.snoc {L:br ν}{p:List Nat}{k:Nat}{a b c:ν}{m:Int}(h:Ch L a p b)(e:L[k]? =some (b,c,m)):Ch L a (p++ [k]) c:=h.app ⟨c,m,e,rfl⟩
def src (L:br ν)(k:Nat):Option ν:=(L[k]?).map (·.1)
abbrev b7 (ν:Type):=ν->Option (Int×List Nat)
def put (b:b7 ν)(v:ν)(x:Int×List Nat):b7 ν:=fun u=>if u=v then some x else b u
theorem dI {b:b7 ν}{v:ν}{x:Int×List Nat}:put b v x v=some x:=by unfold put;rw [if_pos rfl]
theorem put_ne {b:b7 ν}{u v:ν}{x:Int×List Nat}(h:u≠v):put b v x u=b u:=by unfold put;rw [if_neg h]
def dU (L:br ν)(ks:List Nat):List ν:=ks.filterMap (src L)
def dO (b:b7 ν)(v:ν)(d:Int):Bool:=match b v with
 | none=>true
 | some x=>decide (d<x.1)
def gk (L:br ν)(b:b7 ν)(k:Nat)(x:ν×ν×Int):Sum (Option (b7 ν)) (List Nat):=match b x.1 with
 | none=> .inl none
 | some (d,w)=>if dO b x.2.1 (d+x.2.2)=true then
   if x.2.1∈dU L (w++ [k])then .inr ((w++ [k]).drop ((dU L (w++ [k])).idxOf x.2.1))else .inl (some (put b x.2.1 (d+x.2.2,w++ [k])))
  else .inl none
def sweep (L:br ν):Nat->br ν->b7 ν->Bool->Sum (b7 ν×Bool) (List Nat)
 | _,[],b,mv=> .inl (b,mv)
 | k,x::r,b,mv=>match gk L b k x with
  | .inr q=> .inr q
  | .inl none=>sweep L (k+1) r b mv
  | .inl (some b')=>sweep L (k+1) r b' true
def settle (L:br ν):Nat->b7 ν->Option (Sum (b7 ν) (List Nat))
 | 0,_=>none
 | n+1,b=>match sweep L 0 L b false with
  | .inr q=>some (.inr q)
  | .inl (b',true)=>settle L n b'
  | .inl (b',false)=>some (.inl b')
theorem pas_app (L:br ν)(p q:List Nat):dU L (p++q)=dU L p++dU L q:=by unfold dU;rw [List.filterMap_append]
theorem pas_one {L:br ν}{k:Nat}{x:ν×ν×Int}(e:L[k]? =some x):dU L [k] = [x.1]:=by unfold dU src;simp [e]
theorem Ch.pas_cons {L:br ν}{k:Nat}{r:List Nat}{a b:ν}(h:Ch L a (k::r) b):dU L (k::r)=a::dU L r:=by
 obtain⟨c,m,e,_⟩:=h
 rw [show k::r= [k] ++r from rfl,pas_app,pas_one e];rfl
theorem Ch.cut {L:br ν}{v:ν}:∀ {ks:List Nat} {a b:ν},Ch L a ks b->v∈dU L ks->Ch L a (ks.take ((dU L ks).idxOf v)) v/\Ch L v (ks.drop ((dU L ks).idxOf v)) b/\(dU L ks).idxOf v<ks.length
 | [],a,b,_,hv=>by simp [dU]at hv
 | k::r,a,b,h,hv=>by
  rw [h.pas_cons]at hv ⊢
  have h0:=h
  obtain⟨c,m,e,h⟩:=h
  by_cases z:a=v
  ·subst z
   rw [List.idxOf_cons_self]
   exact⟨rfl,h0,by simp⟩
  ·have hv':v∈dU L r:=by
    rcases List.mem_cons.mp hv with q | q
    ·exact absurd q.symm z
    ·exact q
   obtain⟨h1,h2,h3⟩:=h.cut hv'
   have ei:(a::dU L r).idxOf v=(dU L r).idxOf v+1:=by
    rw [List.idxOf_cons]
    have:(a == v)=false:=by rw [beq_eq_false_iff_ne];exact z
    rw [this];rfl
   rw [ei]
   exact⟨⟨c,m,e,h1⟩,h2,by simpa using h3⟩
structure Kept (L:br ν)(S:List ν)(b:b7 ν):Prop where
 walk:∀ v d w,b v=some (d,w)->∃ s∈S,Ch L s w v/\cu L w=d/\v∉dU L w/\(dU L w).Nodup/\∀ p q u,w=p++q->Ch L s p u->∃ d' w',b u=some (d',w')/\d'<=cu L p
 start:∀ s∈S,∃d w,b s=some (d,w)/\d<=0
theorem Kept.put {L:br ν}{S:List ν}{b:b7 ν}(K:Kept L S b){k:Nat}{a c:ν}{m d:Int}{w:List Nat}(e:L[k]? =some (a,c,m))(ha:b a=some (d,w))(hb:dO b c (d+m)=true)(hn:c∉dU L (w++ [k])) :
  Kept L S (put b c (d+m,w++ [k])):=by
 have low:∀ u d' w',b u=some (d',w')->∃ d'' w'',Gr.put b c (d+m,w++ [k]) u=some (d'',w'')/\d''<=d':=fun u d' w' h=>by
  by_cases z:u=c
  ·subst z
   refine⟨_,_,dI,?_⟩
   unfold dO at hb
   rw [h]at hb
   have:=of_decide_eq_true hb
   omega
  ·exact⟨d',w',by rw [put_ne z];exact h,Int.le_refl _⟩
 obtain⟨s,hs,h1,h2,h3,h4,h5⟩:=K.walk a d w ha
 have hch:Ch L s (w++ [k]) c:=h1.snoc e
 have hcost:cu L (w++ [k])=d+m:=by rw [cost_app,h2,cu,cu,most,e];simp
 refine⟨fun v d' w' h=> ?_,fun s' hs'=> ?_⟩
 ·by_cases z:v=c
  ·subst z
   rw [dI]at h
   cases h
   refine⟨s,hs,hch,hcost,hn,?_,fun p q u hpq hp=> ?_⟩
   ·rw [pas_app,pas_one e]
    exact List.nodup_append.mpr ⟨h4,by simp,fun x hx y hy=>by simp at hy;subst hy;exact fun z=>h3 (z▸hx)⟩
   ·by_cases hq:q= []
    ·subst hq
     rw [List.append_nil]at hpq
     subst hpq
     have:u=v:=by
      clear low hb hn h5
      have aux:∀ {ks:List Nat} {x y z:ν},Ch L x ks y->Ch L x ks z->y=z:=by
       intro ks
       induction ks with
       | nil=>intro x y z h1 h2;cases h1;cases h2;rfl
       | cons k r ih=>
        rintro x y z ⟨c1,m1,e1,r1⟩ ⟨c2,m2,e2,r2⟩
        rw [e1]at e2;cases e2
        exact ih r1 r2
      exact aux hp hch
     subst this
     exact⟨_,_,dI,by rw [hcost];exact Int.le_refl _⟩
    ·have hw:∃ q',w=p++q':=by
      refine⟨q.dropLast,?_⟩
      have:=congrArg List.dropLast hpq
      rw [List.dropLast_concat,List.dropLast_append_of_ne_nil hq]at this
      exact this
     obtain⟨q',hw⟩:=hw
     obtain⟨d1,w1,e1,l1⟩:=h5 p q' u hw hp
     obtain⟨d2,w2,e2,l2⟩:=low u d1 w1 e1
     exact⟨d2,w2,e2,by omega⟩
  ·rw [put_ne z]at h
   obtain⟨s',hs',g1,g2,g3,g4,g5⟩:=K.walk v d' w' h
   refine⟨s',hs',g1,g2,g3,g4,fun p q u hpq hp=> ?_⟩
   obtain⟨d1,w1,e1,l1⟩:=g5 p q u hpq hp
   obtain⟨d2,w2,e2,l2⟩:=low u d1 w1 e1
   exact⟨d2,w2,e2,by omega⟩
 ·obtain⟨d1,w1,e1,l1⟩:=K.start s' hs'
  obtain⟨d2,w2,e2,l2⟩:=low s' d1 w1 e1
  exact⟨d2,w2,e2,by omega⟩
def Bar (L:br ν)(q:List Nat):Prop:=q≠ []/\(∃a,Ch L a q a)/\cu L q<0/\(dU L q).Nodup
theorem Ch.pas_drop {L:br ν}:∀ {ks:List Nat} {a b:ν} (i:Nat),Ch L a ks b->dU L (ks.drop i)=(dU L ks).drop i
 | [],_,_,i,_=>by simp [dU]
 | k::r,a,b,0,_=>rfl
 | k::r,a,b,i+1,h=>by
  have:=h
  obtain⟨c,m,e,h'⟩:=this
  rw [h.pas_cons,List.drop_succ_cons,List.drop_succ_cons,h'.pas_drop i]
theorem Kept.round {L:br ν}{S:List ν}{b:b7 ν}(K:Kept L S b){k:Nat}{a c:ν}{m d:Int}{w:List Nat}(e:L[k]? =some (a,c,m))(ha:b a=some (d,w))(hb:dO b c (d+m)=true)(hn:c∈dU L (w++ [k])) :
  Bar L ((w++ [k]).drop ((dU L (w++ [k])).idxOf c)):=by
 obtain⟨s,hs,h1,h2,h3,h4,h5⟩:=K.walk a d w ha
 have hch:Ch L s (w++ [k]) c:=h1.snoc e
 have hcost:cu L (w++ [k])=d+m:=by rw [cost_app,h2,cu,cu,most,e];simp
 obtain⟨c1,c2,c3⟩:=hch.cut hn
 generalize hi:(dU L (w++ [k])).idxOf c=i at c1 c2 c3
 refine⟨fun z=> ?_,⟨c,c2⟩,?_,?_⟩
 ·have:=congrArg List.length z
  rw [List.length_drop]at this
  simp at this c3
  omega
 ·have hsum:cu L ((w++ [k]).take i)+cu L ((w++ [k]).drop i)=d+m:=by rw [<-cost_app,List.take_append_drop,hcost]
  have hiw:i<=w.length:=by simp at c3;omega
  have ht:(w++ [k]).take i=w.take i:=by rw [List.take_append_of_le_length hiw]
  rw [ht]at c1 hsum
  obtain⟨d1,w1,e1,l1⟩:=h5 (w.take i) (w.drop i) c (List.take_append_drop i w).symm c1
  unfold dO at hb
  rw [e1]at hb
  have:=of_decide_eq_true hb
  simp only at this
  omega
 ·rw [hch.pas_drop,pas_app,pas_one e]
  refine(List.drop_sublist _ _).nodup (List.nodup_append.mpr ⟨h4,by simp,fun x hx y hy=> ?_⟩)
  rw [List.mem_singleton.mp hy]
  exact fun z=>h3 (by have z:x=a:=z;rw [<-z];exact hx)
def size (L:br ν):Nat:=(L.map fun x=>x.2.2.natAbs).sum
theorem sum_le_of_sub {f:Nat->Nat}:∀ {ks rs:List Nat},ks.Nodup->(∀k∈ks,k∈rs)->(ks.map f).sum<=(rs.map f).sum
 | [],rs,_,_=>by simp
 | k::ks,rs,hn,hs=>by
  have hk:k∈rs:=hs k List.mem_cons_self
  rw [List.nodup_cons]at hn
  have hp:=List.perm_cons_erase hk
  have e:(rs.map f).sum=f k+((rs.erase k).map f).sum:=by
   have:=(hp.map f).sum_nat
   rwa [List.map_cons,List.sum_cons]at this
  rw [e,List.map_cons,List.sum_cons]
  have:=sum_le_of_sub (f:=f) hn.2 (rs:=rs.erase k) fun j hj=>by
   have h1:=hs j (List.mem_cons_of_mem _ hj)
   exact(List.mem_erase_of_ne (fun(z:j=k)=>hn.1 (z▸hj))).mpr h1
  omega
theorem size_range (L:br ν):size L=((List.range L.length).map fun k=>(most L k).natAbs).sum:=by
 unfold size
 congr 1
 apply List.ext_getElem
 ·simp
 ·intro i h1 h2
  simp only [List.getElem_map,List.getElem_range]
  unfold most
  rw [List.getElem?_eq_getElem (by simpa using h1)]
theorem cost_le (L:br ν):∀ (ks:List Nat),(cu L ks).natAbs<=(ks.map fun k=>(most L k).natAbs).sum
 | [] =>by simp [cu]
 | k::r=>by
  have:=cost_le L r
  rw [cu,List.map_cons,List.sum_cons]
  omega
theorem Ch.nodup {L:br ν}:∀ {ks:List Nat} {a b:ν},Ch L a ks b->(dU L ks).Nodup->ks.Nodup
 | [],_,_,_,_=>List.nodup_nil
 | k::r,a,b,h,hn=>by
  have h0:=h
  rw [h.pas_cons,List.nodup_cons]at hn
  obtain⟨c,m,e,h⟩:=h
  rw [List.nodup_cons]
  refine⟨fun hk=>hn.1 ?_,h.nodup hn.2⟩
  unfold dU src
  exact List.mem_filterMap.mpr ⟨k,hk,by rw [e];rfl⟩
theorem Ch.small {L:br ν}{ks:List Nat}{a b:ν}(h:Ch L a ks b)(hn:(dU L ks).Nodup):(cu L ks).natAbs<=size L:=by
 rw [size_range]
 exact Nat.le_trans (cost_le L ks) (sum_le_of_sub (h.nodup hn) fun k hk=>List.mem_range.mpr (h.lt k hk))
def val (M:Nat)(b:b7 ν)(v:ν):Nat:=match b v with
 | none=>2*M+1
 | some x=>(x.1+M).toNat
def left (M:Nat)(b:b7 ν)(L:br ν):Nat:=(L.map fun x=>val M b x.2.1).sum
theorem left_le {M:Nat}{b b':b7 ν}:∀ {L:br ν},(∀x∈L,val M b' x.2.1<=val M b x.2.1)->left M b' L<=left M b L
 | [],_=>by simp [left]
 | x::L,h=>by
  have h1:=h x List.mem_cons_self
  have h2:=left_le (L:=L) fun y hy=>h y (List.mem_cons_of_mem _ hy)
  unfold left at h2 ⊢
  rw [List.map_cons,List.sum_cons,List.map_cons,List.sum_cons]
  omega
theorem left_lt {M:Nat}{b b':b7 ν}{x:ν×ν×Int}:∀ {L:br ν},x∈L->(∀x∈L,val M b' x.2.1<=val M b x.2.1)->val M b' x.2.1<val M b x.2.1->left M b' L<left M b L
 | [],hx,_,_=>by simp at hx
 | y::L,hx,h,hl=>by
  have h1:=h y List.mem_cons_self
  have h2:=left_le (L:=L) fun y hy=>h y (List.mem_cons_of_mem _ hy)
  unfold left at h2 ⊢
  rw [List.map_cons,List.sum_cons,List.map_cons,List.sum_cons]
  rcases List.mem_cons.mp hx with rfl | hx
  ·omega
  ·have h3:=left_lt (L:=L) hx (fun y hy=>h y (List.mem_cons_of_mem _ hy)) hl
   unfold left at h3
   omega
theorem left_put {L:br ν}{S:List ν}{b:b7 ν}(K:Kept L S b){k:Nat}{a c:ν}{m d:Int}{w:List Nat}(e:L[k]? =some (a,c,m))(ha:b a=some (d,w))(hb:dO b c (d+m)=true)(hn:c∉dU L (w++ [k])) :
  left (size L) (put b c (d+m,w++ [k])) L<left (size L) b L:=by
 have K':=K.put e ha hb hn
 obtain⟨s,hs,h1,h2,h3,h4,h5⟩:=K'.walk c (d+m) (w++ [k]) dI
 have sm:=h1.small h4
 rw [h2]at sm
 have lt:val (size L) (put b c (d+m,w++ [k])) c<val (size L) b c:=by
  unfold val dO at*
  rw [dI]
  cases z:b c with
  | none=>simp only;omega
  | some y=>
   rw [z]at hb
   have hb:=of_decide_eq_true hb
   simp only
   omega
 refine left_lt (x:=(a,c,m)) (List.mem_of_getElem? e) (fun y _=> ?_) lt
 by_cases z:y.2.1=c
 ·rw [z];exact Nat.le_of_lt lt
 ·unfold val;rw [put_ne z];exact Nat.le_refl _
def Still (b:b7 ν)(x:ν×ν×Int):Prop:=∀ d w,b x.1=some (d,w)->∃ d' w',b x.2.1=some (d',w')/\d'<=d+x.2.2
theorem still_of {b:b7 ν}{x:ν×ν×Int}(h:∀ d w,b x.1=some (d,w)->dO b x.2.1 (d+x.2.2)=false):Still b x:=fun d w e=>by
 have:=h d w e
 unfold dO at this
 cases z:b x.2.1 with
 | none=>rw [z]at this;cases this
 | some y=>
  rw [z]at this
  have:=of_decide_eq_false this
  exact⟨y.1,y.2,rfl,by omega⟩
theorem sweep_ok {L:br ν}{S:List ν}:∀ (r:br ν) (k:Nat) (b:b7 ν) (mv:Bool),L.drop k=r->Kept L S b->match sweep L k r b mv with
  | .inr q=>Bar L q
  | .inl (b',mv')=>Kept L S b'/\(mv'=false->mv=false/\b'=b/\∀ x∈r,Still b x)/\left (size L) b' L<=left (size L) b L/\(mv'=true->mv=true\/left (size L) b' L<left (size L) b L)
 | [],k,b,mv,_,K=>⟨K,fun h=>⟨h,rfl,fun x hx=>by simp at hx⟩,Nat.le_refl _,fun h=> .inl h⟩
 | x::r,k,b,mv,hr,K=>by
  have e:L[k]? =some x:=by
   have:=congrArg (·[0]?) hr
   simpa using this
  have hr':L.drop (k+1)=r:=by
   have:=congrArg (List.drop 1) hr
   simpa [List.drop_drop,Nat.add_comm]using this
  rw [sweep]
  obtain⟨a,c,m⟩:=x
  unfold gk
  cases z:b a with
  | none=>
   simp only [z]
   have ih:=sweep_ok r (k+1) b mv hr' K
   revert ih
   generalize sweep L (k+1) r b mv=R
   cases R with
   | inr q=>exact id
   | inl p=>
    obtain⟨b',mv'⟩:=p
    rintro ⟨i1,i2,i3,i4⟩
    refine⟨i1,fun h=> ?_,i3,i4⟩
    obtain⟨j1,j2,j3⟩:=i2 h
    refine⟨j1,j2,fun x hx=> ?_⟩
    rcases List.mem_cons.mp hx with rfl | hx
    ·intro d w q;rw [z]at q;cases q
    ·exact j3 x hx
  | some y=>
   obtain⟨d,w⟩:=y
   simp only [z]
   by_cases hb:dO b c (d+m)=true
   ·rw [if_pos hb]
    by_cases hn:c∈dU L (w++ [k])
    ·rw [if_pos hn]
     exact K.round e z hb hn
    ·rw [if_neg hn]
     have K':=K.put e z hb hn
     have lt:=left_put K e z hb hn
     have ih:=sweep_ok r (k+1) (put b c (d+m,w++ [k])) true hr' K'
     revert ih
     simp only
     generalize sweep L (k+1) r (put b c (d+m,w++ [k])) true=R
     cases R with
     | inr q=>exact id
     | inl p=>
      obtain⟨b',mv'⟩:=p
      rintro ⟨i1,i2,i3,i4⟩
      refine⟨i1,fun h=> ?_,by omega,fun _=> .inr (by omega)⟩
      obtain⟨j1,_⟩:=i2 h
      cases j1
   ·rw [if_neg hb]
    have ih:=sweep_ok r (k+1) b mv hr' K
    revert ih
    simp only
    generalize sweep L (k+1) r b mv=R
    cases R with
    | inr q=>exact id
    | inl p=>
     obtain⟨b',mv'⟩:=p
     rintro ⟨i1,i2,i3,i4⟩
     refine⟨i1,fun h=> ?_,i3,i4⟩
     obtain⟨j1,j2,j3⟩:=i2 h
     refine⟨j1,j2,fun x hx=> ?_⟩
     rcases List.mem_cons.mp hx with rfl | hx
     ·refine still_of fun d' w' q=> ?_
      simp only at q
      rw [z]at q;cases q
      simpa using hb
     ·exact j3 x hx
structure Settled (L:br ν)(S:List ν)(b:b7 ν):Prop where
 walk:∀ v d w,b v=some (d,w)->∃ s∈S,Ch L s w v/\cu L w=d/\v∉dU L w/\(dU L w).Nodup
 least:∀ s∈S,∀v t,Wk L s v t->∃ d w,b v=some (d,w)/\d<=t
theorem settled_of {L:br ν}{S:List ν}{b:b7 ν}(K:Kept L S b)(h:∀ x∈L,Still b x):Settled L S b where
 walk:=fun v d w e=>by
  obtain⟨s,h1,h2,h3,h4,h5,_⟩:=K.walk v d w e
  exact⟨s,h1,h2,h3,h4,h5⟩
 least:=by
  have go:∀ {u v:ν} {t:Int},Wk L u v t->∀ d w,b u=some (d,w)->∃ d' w',b v=some (d',w')/\d'<=d+t:=by
   intro u v t hw
   induction hw with
   | nil a=>exact fun d w e=>⟨d,w,e,by omega⟩
   | step e _ ih=>
    intro d w q
    obtain⟨d1,w1,e1,l1⟩:=h _ e d w q
    obtain⟨d2,w2,e2,l2⟩:=ih d1 w1 e1
    exact⟨d2,w2,e2,by simp only at l1;omega⟩
  intro s hs v t hw
  obtain⟨d,w,e,l⟩:=K.start s hs
  obtain⟨d2,w2,e2,l2⟩:=go hw d w e
  exact⟨d2,w2,e2,by omega⟩
theorem settle_ok {L:br ν}{S:List ν}:∀ (n:Nat) (b:b7 ν),Kept L S b->left (size L) b L<n->∃ r,settle L n b=some r/\match r with
  | .inr q=>Bar L q
  | .inl b'=>Settled L S b'
 | 0,b,K,h=>by omega
 | n+1,b,K,h=>by
  have s:=sweep_ok (S:=S) L 0 b false rfl K
  rw [settle]
  revert s
  generalize sweep L 0 L b false=R
  cases R with
  | inr q=>exact fun s=>⟨_,rfl,s⟩
  | inl p=>
   obtain⟨b',mv'⟩:=p
   rintro ⟨i1,i2,i3,i4⟩
   cases mv' with
   | false=>
    obtain⟨_,j2,j3⟩:=i2 rfl
    subst j2
    exact⟨_,rfl,settled_of i1 j3⟩
   | true=>
    rcases i4 rfl with z | z
    ·cases z
    ·exact settle_ok n b' i1 (by omega)
def start (S:List ν):b7 ν:=fun v=>if v∈S then some (0,[])else none
theorem kept_start (L:br ν)(S:List ν):Kept L S (start S) where
 walk:=fun v d w e=>by
  unfold start at e
  split at e
  ·rename_i h
   cases e
   refine⟨v,h,rfl,rfl,by simp [dU],by simp [dU],fun p q u hpq hp=> ?_⟩
   obtain⟨rfl,rfl⟩:=List.append_eq_nil_iff.mp hpq.symm
   cases hp
   exact⟨0,[],by unfold start;rw [if_pos h],by simp [cu]⟩
  ·cases e
 start:=fun s hs=>⟨0,[],by unfold start;rw [if_pos hs],Int.le_refl _⟩
theorem left_max (L:br ν)(S:List ν):left (size L) (start S) L<=L.length*(2*size L+1):=by
 unfold left
 have:∀ M:br ν,(M.map fun x=>val (size L) (start S) x.2.1).sum<=M.length*(2*size L+1):=by
  intro M
  induction M with
  | nil=>simp
  | cons x M ih=>
   rw [List.map_cons,List.sum_cons,List.length_cons,Nat.succ_mul]
   have:val (size L) (start S) x.2.1<=2*size L+1:=by
    unfold val start
    split
    ·exact Nat.le_refl _
    ·rename_i h
     split at h
     ·cases h;simp;omega
     ·cases h
   omega
 exact this L
theorem settle_all (L:br ν)(S:List ν){n:Nat}(h:L.length*(2*size L+1)<n):∃ r,settle L n (start S)=some r/\match r with
  | .inr q=>Bar L q
  | .inl b'=>Settled L S b':=settle_ok n (start S) (kept_start L S) (Nat.lt_of_le_of_lt (left_max L S) h)
theorem Bar.neg {L:br ν}{q:List Nat}(h:Bar L q):¬ NoNeg L:=fun n=>by
 obtain⟨_,⟨a,ha⟩,hc,_⟩:=h
 have:=n a _ ha.wk
 omega
theorem Settled.holds {L:br ν}{S:List ν}{b:b7 ν}(h:Settled L S b)(hS:∀ x∈L,x.1∈S/\x.2.1∈S){t:ν->Int}(ht:∀ v∈S,∃w,b v=some (t v,w)):Holds L t:=fun a c m hx=>by
 obtain⟨ha,hc⟩:=hS _ hx
 obtain⟨w,e⟩:=ht a ha
 obtain⟨s,hs,h1,h2,_⟩:=h.walk a _ _ e
 obtain⟨d,w',e',l⟩:=h.least s hs c _ (h1.wk.app (.one hx))
 obtain⟨w2,e2⟩:=ht c hc
 rw [e2]at e';cases e'
 omega
inductive Pth (L:br ν):ν->List ν->ν->Int->Prop
 | one {a b:ν} {m:Int}:(a,b,m)∈L->Pth L a [] b m
 | cons {a x b:ν} {ms:List ν} {m s:Int}:(a,x,m)∈L->Pth L x ms b s->Pth L a (x::ms) b (m+s)
theorem Pth.cut {L:br ν}{x:ν}{q:List ν}:∀ {p:List ν} {a b:ν} {s:Int},Pth L a (p++x::q) b s->∃ s1 s2,Pth L a p x s1/\Pth L x q b s2/\s=s1+s2
 | [],a,b,s,h=>by
  cases h with
  | cons e h=>exact⟨_,_,.one e,h,rfl⟩
 | y::p,a,b,s,h=>by
  cases h with
  | cons e h=>
   obtain⟨s1,s2,h1,h2,h3⟩:=Pth.cut h
   exact⟨_,s2,.cons e h1,h2,by omega⟩
def Simple (L:br ν)(u v:ν)(s:Int):Prop:=(u=v/\s=0)\/(u≠v/\∃ ms,Pth L u ms v s/\ms.Nodup/\u∉ms/\v∉ms)
def NegCyc (L:br ν):Prop:=∃ x ms s,Pth L x ms x s/\ms.Nodup/\x∉ms/\s<0
theorem Wk.simple {L:br ν}{u v:ν}{s:Int}(w:Wk L u v s):NegCyc L\/∃ s',s'<=s/\Simple L u v s':=by
 induction w with
 | nil a=>exact .inr ⟨0,Int.le_refl _,.inl ⟨rfl,rfl⟩⟩
 | @step a b c m s e w ih=>
  rcases ih with ih | ⟨s',hs,ih⟩
  ·exact .inl ih
  by_cases hab:a=b
  ·subst hab
   by_cases hm:m<0
   ·exact .inl ⟨a,[],m,.one e,List.nodup_nil,by simp,hm⟩
   ·exact .inr ⟨s',by omega,ih⟩
  rcases ih with⟨rfl,rfl⟩ | ⟨hbc,ms,hp,hn,hb,hc⟩
  ·exact .inr ⟨m,by omega,.inr ⟨hab,[],.one e,List.nodup_nil,by simp,by simp⟩⟩
  by_cases hac:a=c
  ·subst hac
   by_cases hm:m+s'<0
   ·exact .inl ⟨a,b::ms,m+s',.cons e hp,List.nodup_cons.mpr ⟨hb,hn⟩,by simp [hab,hc],hm⟩
   ·exact .inr ⟨0,by omega,.inl ⟨rfl,rfl⟩⟩
  by_cases ham:a∈ms
  ·obtain⟨p,q,rfl⟩:=List.append_of_mem ham
   obtain⟨s1,s2,h1,h2,h3⟩:=hp.cut
   rw [List.nodup_append]at hn
   obtain⟨n1,n2,n3⟩:=hn
   rw [List.nodup_cons]at n2
   have hap:a∉p:=fun z=>n3 a z a List.mem_cons_self rfl
   by_cases hm:m+s1<0
   ·refine .inl ⟨a,b::p,m+s1,.cons e h1,List.nodup_cons.mpr ⟨fun z=>hb (List.mem_append_left _ z),n1⟩,by simp [hab,hap],hm⟩
   ·exact .inr ⟨s2,by omega,.inr ⟨hac,q,h2,n2.2,n2.1,fun z=>hc (List.mem_append_right _ (List.mem_cons_of_mem _ z))⟩⟩
  ·refine .inr ⟨m+s',by omega,.inr ⟨hac,b::ms,.cons e hp,List.nodup_cons.mpr ⟨hb,hn⟩,by simp [hab,ham],?_⟩⟩
   simp only [List.mem_cons,not_or]
   exact⟨fun z=>hbc z.symm,hc⟩
abbrev dY (ν:Type):=ν->ν->Option Int
def fset (f:dY ν)(a b:ν)(x:Int):dY ν:=fun u v=>if u=a/\v=b then some x else f u v
def fimp (f:dY ν)(a b:ν)(x:Int):dY ν:=match f a b with
 | none=>fset f a b x
 | some y=>if x<y then fset f a b x else f
def fstep (mid one other:ν)(f:dY ν):dY ν:=match f one mid,f mid other with
 | some x,some y=>fimp f one other (x+y)
 | _,_=>f
def tab0 (P:List ν):dY ν:=fun u v=>if u∈P/\u=v then some 0 else none
def tab1 (P:List ν)(L:br ν):dY ν:=L.foldl (fun f x=>fimp f x.1 x.2.1 x.2.2) (tab0 P)
def fothers (mid one:ν)(P:List ν)(f:dY ν):dY ν:=P.foldl (fun f other=>fstep mid one other f) f
def fones (mid:ν)(Q P:List ν)(f:dY ν):dY ν:=Q.foldl (fun f one=>fothers mid one P f) f
def fmids (M P:List ν)(f:dY ν):dY ν:=M.foldl (fun f mid=>fones mid P P f) f
def table (P:List ν)(L:br ν):dY ν:=fmids P P (tab1 P L)
def Le (f g:dY ν):Prop:=∀ u v x,g u v=some x->∃ y,f u v=some y/\y<=x
theorem Le.refl (f:dY ν):Le f f:=fun u v x h=>⟨x,h,Int.le_refl _⟩
theorem Le.trans {f g h:dY ν}(a:Le f g)(b:Le g h):Le f h:=fun u v x e=>by
 obtain⟨y,e1,l1⟩:=b u v x e
 obtain⟨z,e2,l2⟩:=a u v y e1
 exact⟨z,e2,by omega⟩
theorem fset_same {f:dY ν}{a b:ν}{x:Int}:fset f a b x a b=some x:=by unfold fset;rw [if_pos ⟨rfl,rfl⟩]
theorem fimp_le (f:dY ν)(a b:ν)(x:Int):Le (fimp f a b x) f:=fun u v y e=>by
 unfold fimp
 cases q:f a b with
 | none=>
  by_cases z:u=a/\v=b
  ·obtain⟨rfl,rfl⟩:=z;rw [q]at e;cases e
  ·exact⟨y,by simp only;unfold fset;rw [if_neg z];exact e,Int.le_refl _⟩
 | some y0=>
  simp only
  split
  ·by_cases z:u=a/\v=b
   ·obtain⟨rfl,rfl⟩:=z;rw [q]at e;cases e
    exact⟨x,fset_same,by omega⟩
   ·exact⟨y,by unfold fset;rw [if_neg z];exact e,Int.le_refl _⟩
  ·exact⟨y,e,Int.le_refl _⟩
theorem fimp_at (f:dY ν)(a b:ν)(x:Int):∃ y,fimp f a b x a b=some y/\y<=x:=by
 unfold fimp
 cases q:f a b with
 | none=>exact⟨x,fset_same,Int.le_refl _⟩
 | some y0=>
  simp only
  split
  ·exact⟨x,fset_same,Int.le_refl _⟩
  ·exact⟨y0,q,by omega⟩
theorem fimp_sound {L:br ν}{f:dY ν}{a b:ν}{x:Int}(h:∀ u v y,f u v=some y->Wk L u v y)(hx:Wk L a b x):∀ u v y,fimp f a b x u v=some y->Wk L u v y:=fun u v y e=>by
 have key:fset f a b x u v=some y->Wk L u v y:=fun e'=>by
  unfold fset at e'
  by_cases z:u=a/\v=b
  ·rw [if_pos z]at e';injection e' with e';rw [z.1,z.2,<-e'];exact hx
  ·rw [if_neg z]at e';exact h u v y e'
 unfold fimp at e
 cases q:f a b with
 | none=>rw [q]at e;exact key e
 | some y0=>
  rw [q]at e
  simp only at e
  split at e
  ·exact key e
  ·exact h u v y e
theorem fstep_le (mid one other:ν)(f:dY ν):Le (fstep mid one other f) f:=by
 unfold fstep
 split
 ·exact fimp_le _ _ _ _
 ·exact Le.refl f
theorem fstep_at {mid one other:ν}{f:dY ν}{x y:Int}(h1:f one mid=some x)(h2:f mid other=some y):∃ z,fstep mid one other f one other=some z/\z<=x+y:=by
 unfold fstep
 rw [h1,h2]
 exact fimp_at _ _ _ _
theorem fold_le {α:Type}(step:dY ν->α->dY ν)(hs:∀ f a,Le (step f a) f):∀ (l:List α) (f:dY ν),Le (l.foldl step f) f
 | [],f=>Le.refl f
 | a::l,f=>(fold_le step hs l (step f a)).trans (hs f a)
theorem fothers_le (mid one:ν)(P:List ν)(f:dY ν):Le (fothers mid one P f) f:=fold_le _ (fun f o=>fstep_le mid one o f) P f
theorem fones_le (mid:ν)(Q P:List ν)(f:dY ν):Le (fones mid Q P f) f:=fold_le _ (fun f o=>fothers_le mid o P f) Q f
theorem fmids_le (M P:List ν)(f:dY ν):Le (fmids M P f) f:=fold_le _ (fun f o=>fones_le o P P f) M f
theorem fold_at {α:Type}(step:dY ν->α->dY ν)(hs:∀ f a,Le (step f a) f):∀ (l:List α) (f:dY ν) (a:α),a∈l->∃ g,Le g f/\Le (l.foldl step f) (step g a)
 | [],f,a,h=>by simp at h
 | b::l,f,a,h=>by
  rcases List.mem_cons.mp h with rfl | h
  ·exact⟨f,Le.refl f,fold_le step hs l (step f a)⟩
  ·obtain⟨g,h1,h2⟩:=fold_at step hs l (step f b) a h
   exact⟨g,h1.trans (hs f b),h2⟩
theorem fones_at {mid u v:ν}{P:List ν}{f:dY ν}{x y:Int}(hu:u∈P)(hv:v∈P)(h1:f u mid=some x)(h2:f mid v=some y):∃ z,fones mid P P f u v=some z/\z<=x+y:=by
 obtain⟨g,g1,g2⟩:=fold_at (fun f one=>fothers mid one P f) (fun f o=>fothers_le mid o P f) P f u hu
 obtain⟨g',g3,g4⟩:=fold_at (fun f other=>fstep mid u other f) (fun f o=>fstep_le mid u o f) P g v hv
 have l:Le g' f:=g3.trans g1
 obtain⟨x',e1,l1⟩:=l _ _ _ h1
 obtain⟨y',e2,l2⟩:=l _ _ _ h2
 obtain⟨z,e3,l3⟩:=fstep_at e1 e2
 obtain⟨z',e4,l4⟩:=(g2.trans g4) _ _ _ e3
 exact⟨z',e4,by omega⟩
def Up (L:br ν)(M:List ν)(f:dY ν):Prop:=∀ u v ms s,Pth L u ms v s->ms.Nodup->(∀x∈ms,x∈M)->∃ y,f u v=some y/\y<=s
theorem Pth.ends {L:br ν}{P:List ν}(hL:∀ x∈L,x.1∈P/\x.2.1∈P){u v:ν}{ms:List ν}{s:Int}(h:Pth L u ms v s):u∈P/\v∈P/\∀ x∈ms,x∈P:=by
 induction h with
 | one e=>exact⟨(hL _ e).1,(hL _ e).2,by simp⟩
 | cons e _ ih=>exact⟨(hL _ e).1,ih.2.1,fun x hx=>by
   rcases List.mem_cons.mp hx with rfl | hx
   ·exact ih.1
   ·exact ih.2.2 x hx⟩
theorem Up.mid {L:br ν}{P M:List ν}{f:dY ν}(hL:∀ x∈L,x.1∈P/\x.2.1∈P)(h:Up L M f)(k:ν):Up L (k::M) (fones k P P f):=fun u v ms s hp hn hm=>by
 by_cases hk:k∈ms
 ·obtain⟨p,q,rfl⟩:=List.append_of_mem hk
  obtain⟨s1,s2,h1,h2,h3⟩:=hp.cut
  rw [List.nodup_append]at hn
  obtain⟨n1,n2,n3⟩:=hn
  rw [List.nodup_cons]at n2
  have hp':∀ x∈p,x∈M:=fun x hx=>by
   rcases List.mem_cons.mp (hm x (List.mem_append_left _ hx))with rfl | z
   ·exact absurd rfl (n3 x hx x List.mem_cons_self)
   ·exact z
  have hq':∀ x∈q,x∈M:=fun x hx=>by
   rcases List.mem_cons.mp (hm x (List.mem_append_right _ (List.mem_cons_of_mem _ hx)))with rfl | z
   ·exact absurd hx n2.1
   ·exact z
  obtain⟨y1,e1,l1⟩:=h u k p s1 h1 n1 hp'
  obtain⟨y2,e2,l2⟩:=h k v q s2 h2 n2.2 hq'
  obtain⟨z,e3,l3⟩:=fones_at (P:=P) (h1.ends hL).1 (h2.ends hL).2.1 e1 e2
  exact⟨z,e3,by omega⟩
 ·obtain⟨y,e,l⟩:=h u v ms s hp hn fun x hx=>by
   rcases List.mem_cons.mp (hm x hx)with rfl | z
   ·exact absurd hx hk
   ·exact z
  obtain⟨z,e2,l2⟩:=fones_le k P P f u v y e
  exact⟨z,e2,by omega⟩
theorem Up.mids {L:br ν}{P:List ν}(hL:∀ x∈L,x.1∈P/\x.2.1∈P):∀ (Q M:List ν) (f:dY ν),Up L M f->∃ M',(∀x,x∈Q\/x∈M->x∈M')/\Up L M' (fmids Q P f)
 | [],M,f,h=>⟨M,fun x hx=>hx.elim (fun z=>by simp at z) id,h⟩
 | k::Q,M,f,h=>by
  obtain⟨M',h1,h2⟩:=Up.mids hL Q (k::M) (fones k P P f) (h.mid hL k)
  refine⟨M',fun x hx=>h1 x ?_,h2⟩
  rcases hx with hx | hx
  ·rcases List.mem_cons.mp hx with rfl | hx
   ·exact .inr List.mem_cons_self
   ·exact .inl hx
  ·exact .inr (List.mem_cons_of_mem _ hx)
theorem tab1_up {P:List ν}{L:br ν}:Up L [] (tab1 P L):=fun u v ms s hp hn hm=>by
 have:ms= []:=by
  cases ms with
  | nil=>rfl
  | cons x r=>exact absurd (hm x List.mem_cons_self) (by simp)
 subst this
 cases hp with
 | one e=>
  obtain⟨g,h1,h2⟩:=fold_at (fun(f:dY ν) (x:ν×ν×Int)=>fimp f x.1 x.2.1 x.2.2) (fun f x=>fimp_le f _ _ _) L (tab0 P) _ e
  obtain⟨y,e1,l1⟩:=fimp_at g u v s
  obtain⟨z,e2,l2⟩:=h2 u v y e1
  exact⟨z,e2,by omega⟩
theorem fO {α:Type}{L:br ν}(step:dY ν->α->dY ν):∀ (l:List α) (f:dY ν),(∀f,∀a∈l,(∀u v y,f u v=some y->Wk L u v y)->∀ u v y,step f a u v=some y->Wk L u v y)->(∀u v y,f u v=some y->Wk L u v y)->∀ u v y,l.foldl step f u v=some y->Wk L u v y
 | [],f,_,h=>h
 | a::l,f,hs,h=>fO step l (step f a) (fun f b hb=>hs f b (List.mem_cons_of_mem _ hb)) (hs f a List.mem_cons_self h)
theorem table_sound (P:List ν)(L:br ν):∀ u v y,table P L u v=some y->Wk L u v y:=by
 unfold table fmids
 refine fO _ P _ (fun f m _ h=> ?_) ?_
 ·unfold fones
  refine fO _ P _ (fun f o _ h=> ?_) h
  unfold fothers
  refine fO _ P _ (fun f v _ h=> ?_) h
  unfold fstep
  cases e1:f o m with
  | none=>exact h
  | some x=>
   cases e2:f m v with
   | none=>exact h
   | some y=>exact fimp_sound h ((h _ _ _ e1).app (h _ _ _ e2))
 ·unfold tab1
  refine fO _ L _ (fun f x hx h=>fimp_sound h (.one hx)) fun u v y e=> ?_
  unfold tab0 at e
  split at e
  ·rename_i z;obtain⟨_,rfl⟩:=z;cases e;exact .nil u
  ·cases e
theorem table_up {P:List ν}{L:br ν}(hL:∀ x∈L,x.1∈P/\x.2.1∈P):∀ u v ms s,Pth L u ms v s->ms.Nodup->∃ y,table P L u v=some y/\y<=s:=fun u v ms s hp hn=>by
 obtain⟨M',h1,h2⟩:=Up.mids hL P [] (tab1 P L) tab1_up
 exact h2 u v ms s hp hn fun x hx=>h1 x (.inl ((hp.ends hL).2.2 x hx))
theorem table_diag {P:List ν}{L:br ν}{u:ν}(hu:u∈P):∃ y,table P L u u=some y/\y<=0:=by
 have h0:tab0 P u u=some 0:=by unfold tab0;rw [if_pos ⟨hu,rfl⟩]
 have h1:Le (table P L) (tab0 P):=(fmids_le P P _).trans (fold_le _ (fun f x=>fimp_le f _ _ _) L _)
 exact h1 u u 0 h0
structure Least (L:br ν)(P:List ν)(f:dY ν):Prop where
 is:∀ u v d,f u v=some d->Wk L u v d
 le:∀ u∈P,∀v t,Wk L u v t->∃ d,f u v=some d/\d<=t
theorem table_neg {P:List ν}{L:br ν}{u:ν}{y:Int}(h:table P L u u=some y)(hy:y<0):¬ NoNeg L:=fun n=>by
 have:=n u y (table_sound P L u u y h)
 omega
theorem table_least {P:List ν}{L:br ν}(hL:∀ x∈L,x.1∈P/\x.2.1∈P)(h:∀ u∈P,∀y,table P L u u=some y->0<=y):NoNeg L/\Least L P (table P L):=by
 have nc:¬ NegCyc L:=fun⟨x,ms,s,hp,hn,_,hs⟩=>by
  obtain⟨y,e,l⟩:=table_up hL x x ms s hp hn
  have:=h x (hp.ends hL).1 y e
  omega
 have le:∀ u∈P,∀v t,Wk L u v t->∃ d,table P L u v=some d/\d<=t:=fun u hu v t w=>by
  rcases w.simple with z | ⟨s',hs,z⟩
  ·exact absurd z nc
  ·rcases z with⟨rfl,rfl⟩ | ⟨_,ms,hp,hn,_⟩
   ·obtain⟨y,e,l⟩:=table_diag (L:=L) hu
    exact⟨y,e,by omega⟩
   ·obtain⟨y,e,l⟩:=table_up hL u v ms s' hp hn
    exact⟨y,e,by omega⟩
 refine⟨fun a s w=> ?_,fun u v d e=>table_sound P L u v d e,le⟩
 by_cases ha:a∈P
 ·obtain⟨d,e,l⟩:=le a ha a s w
  have:=h a ha d e
  omega
 ·cases w with
  | nil=>exact Int.le_refl _
  | step e _=>exact absurd (hL _ e).1 ha
end Gr
namespace G
open PySem Tr Gr
structure N2 where
 c:Int
 k:Int
deriving DecidableEq
theorem N2.ext':∀ {u v:N2},u.c=v.c->u.k=v.k->u=v
 | ⟨_,_⟩,⟨_,_⟩,rfl,rfl=>rfl
def en (v:N2):T:=.tup [.int v.c,.int v.k]
def eB (x:N2×N2×Int):T:=.tup [en x.1,en x.2.1,.int x.2.2]
def eN (ks:List Nat):List T:=ks.map fun k=> .int (k:Nat)
def eW (x:Int×List Nat):T:=.tup [.int x.1,.lst (eN x.2)]
def ky (v:N2):List L2.Key:=[.inl v.c,.inl v.k]
theorem a7 (v:N2):aR (en v)=some (ky v):=rfl
theorem gE {u v:N2}(h:some (ky u)=some (ky v)):u=v:=by
 injection h with h
 injection h with h1 h2
 injection h2 with h2 _
 injection h1 with h1
 injection h2 with h2
 exact N2.ext' h1 h2
theorem en_inj {u v:N2}(h:en u=en v):u=v:=gE (by rw [<-a7 u,<-a7 v,h])
theorem beq_en (u v:N2):aW (en u) (en v)=decide (u=v):=by
 unfold en aW beqTs aW beqTs beqTs
 by_cases h:u=v
 ·subst h;simp [aW]
 ·have:¬ (u.c=v.c/\u.k=v.k):=fun z=>h (N2.ext' z.1 z.2)
  simp [h,aW]
  exact fun z=>fun y=>this ⟨z,y⟩
theorem dget_ns (g:N2->T)(v:N2):∀ (ns:List N2),dget (ns.map en) (ns.map g) (ky v)=if v∈ns then some (g v)else none
 | [] =>rfl
 | u::ns=>by
  rw [List.map_cons,List.map_cons,dget,a7]
  by_cases h:u=v
  ·subst h;rw [if_pos rfl,if_pos List.mem_cons_self]
  ·rw [if_neg (fun z=>h (gE z)),dget_ns g v ns]
   have:(v∈u::ns)↔v∈ns:=by rw [List.mem_cons];exact⟨fun z=>z.elim (fun y=>absurd y.symm h) id,.inr⟩
   simp only [this]
theorem dput_out (x:T)(v:N2)(g:N2->T):∀ (ns:List N2),v∉ns->fT (en v) x (ns.map en) (ns.map g)=(ns.map en++ [en v],ns.map g++ [x])
 | [],_=>rfl
 | u::ns,h=>by
  rw [List.mem_cons,not_or]at h
  rw [List.map_cons,List.map_cons,fT,a7,a7,if_neg (fun z=>h.1 (gE z).symm),dput_out x v g ns h.2]
  rfl
theorem dput_in (x:T)(v:N2)(g:N2->T):∀ (ns:List N2),ns.Nodup->v∈ns->fT (en v) x (ns.map en) (ns.map g)=(ns.map en,ns.map fun u=>if u=v then x else g u)
 | [],_,h=>by simp at h
 | u::ns,hn,h=>by
  rw [List.nodup_cons]at hn
  rw [List.map_cons,List.map_cons,List.map_cons,fT,a7,a7]
  by_cases z:u=v
  ·subst z
   rw [if_pos rfl,if_pos rfl]
   congr 2
   exact List.map_congr_left fun w hw=>by rw [if_neg (fun(y:w=u)=>hn.1 (y▸hw))]
  ·rw [if_neg (fun y=>z (gE y)),if_neg z]
   have h':v∈ns:=(List.mem_cons.mp h).elim (fun y=>absurd y.symm z) id
   rw [dput_in x v g ns hn.2 h']
theorem nodup_len {α:Type}[DecidableEq α]:∀ {l m:List α},l.Nodup->(∀x∈l,x∈m)->l.length<=m.length
 | [],_,_,_=>Nat.zero_le _
 | x::l,m,hn,h=>by
  rw [List.nodup_cons]at hn
  have hx:=h x List.mem_cons_self
  have:=nodup_len (m:=m.erase x) hn.2 fun y hy=>(List.mem_erase_of_ne (fun(z:y=x)=>hn.1 (z▸hy))).mpr (h y (List.mem_cons_of_mem _ hy))
  rw [List.length_erase_of_mem hx]at this
  have:0<m.length:=List.length_pos_of_mem hx
  rw [List.length_cons];omega
def oW (o:Option (Int×List Nat)):T:=match o with
 | some x=>eW x
 | none=> .non
structure DR (P ns:List N2)(b:b7 N2):Prop where
 nd:ns.Nodup
 mem:∀ v,v∈ns↔(b v).isSome=true
 sub:∀ v∈ns,v∈P
def dV (ns:List N2)(b:b7 N2):List T:=ns.map fun v=>oW (b v)
theorem DR.get {P ns:List N2}{b:b7 N2}(D:DR P ns b)(v:N2):dget (ns.map en) (dV ns b) (ky v)=(b v).map eW:=by
 unfold dV
 rw [dget_ns (fun v=>oW (b v))]
 have:=D.mem v
 cases q:b v with
 | none=>rw [q]at this;rw [if_neg (fun z=>by simpa using this.mp z)];rfl
 | some x=>rw [q]at this;rw [if_pos (this.mpr rfl)];rfl
theorem DR.put {P ns:List N2}{b:b7 N2}(D:DR P ns b){v:N2}(hv:v∈P)(y:Int×List Nat):∃ ns',DR P ns' (Gr.put b v y)/\fT (en v) (eW y) (ns.map en) (dV ns b)=(ns'.map en,dV ns' (Gr.put b v y)):=by
 by_cases h:v∈ns
 ·refine⟨ns,⟨D.nd,fun u=> ?_,D.sub⟩,?_⟩
  ·by_cases z:u=v
   ·subst z;rw [dI];exact⟨fun _=>rfl,fun _=>h⟩
   ·rw [put_ne z];exact D.mem u
  ·unfold dV
   rw [dput_in _ _ _ _ D.nd h]
   congr 1
   refine List.map_congr_left fun u _=> ?_
   by_cases z:u=v
   ·subst z;rw [if_pos rfl,dI];rfl
   ·rw [if_neg z,put_ne z]
 ·refine⟨ns++ [v],⟨?_,fun u=> ?_,fun u hu=> ?_⟩,?_⟩
  ·exact List.nodup_append.mpr ⟨D.nd,by simp,fun x hx y hy=>by simp at hy;subst hy;exact fun z=>h (z▸hx)⟩
  ·rw [List.mem_append,List.mem_singleton]
   by_cases z:u=v
   ·subst z;rw [dI];exact⟨fun _=>rfl,fun _=> .inr rfl⟩
   ·rw [put_ne z,<-D.mem u];exact⟨fun w=>w.elim id fun y=>absurd y z,.inl⟩
  ·rcases List.mem_append.mp hu with w | w
   ·exact D.sub u w
   ·rw [List.mem_singleton.mp w];exact hv
  ·unfold dV
   rw [dput_out _ _ _ _ h,List.map_append,List.map_append]
   congr 1
   congr 1
   ·refine List.map_congr_left fun u hu=> ?_
    rw [put_ne (fun(z:u=v)=>h (z▸hu))]
   ·simp [dI,oW]
theorem e_better {P ns:List N2}{b:b7 N2}(D:DR P ns b)(x:N2×N2×Int)(d:Int)(w:List Nat) :
  cR [.dct (ns.map en) (dV ns b),eB x,eW (d,w)] = .ok (.bl (dO b x.2.1 (d+x.2.2))):=by
 refine aY rfl ?_
 show eJ [.va (.dct (ns.map en) (dV ns b)),.va (eB x),.va (eW (d,w)),.em] =_
 unfold eJ
 have g:oD dgetT (vr 0) (o2 aO (vr 1) (cn (.int 1))) [.va (.dct (ns.map en) (dV ns b)),.va (eB x),.va (eW (d,w)),.em] = .ok (oW (b x.2.1)):=by
  refine k_oD (ks:=ns.map en) (vs:=dV ns b) (u:=en x.2.1) rfl rfl ?_
  unfold dgetT
  rw [a7]
  simp only [D.get]
  cases b x.2.1 <;> rfl
 rw [ax (bN (t:=oW (b x.2.1)) (ρ':=[.va (.dct (ns.map en) (dV ns b)),.va (eB x),.va (eW (d,w)),.va (oW (b x.2.1))]) g rfl)]
 refine bB ?_
 unfold dO
 cases q:b x.2.1 with
 | none=>exact k_orV1 (aw (t:=.non) (u:=.non) rfl rfl rfl)
 | some y=>exact(k_orV0 (aw (t:=eW y) (u:=.non) rfl rfl rfl)).trans (aw (t:=.int (d+x.2.2)) (u:=.int y.1) rfl rfl rfl)
abbrev seF:En->Rs Fl:=(az (b8 (ln 2 (oD dgetT (vr 2) (o2 aO (vr 5) (cn (.int 0))))) (gN 6)) (az (fo (orB (tb (o2 gg (vr 6) (cn .non))) (dM (lnB 2 (tb (cl cR (ac (vr 2) (ac (vr 5) (ac (vr 6) ah)))))))) sCt sN) (az (b8 (o2 aI (o2 aO (vr 6) (cn (.int 1))) (bY (ac (vr 4) ah))) (gN 7)) (az (b8 (fw (iS (vr 7)) [none,some 0] (gN 0) bT (o2 aO (o2 aO (vr 1) (vr 0)) (cn (.int 0)))) (gN 8)) (az (fo (tb (o2 inT (o2 aO (vr 5) (cn (.int 1))) (vr 8))) (aM (bi (ac (cn .non) (ac (sl (vr 7) (pS (oL fY (vr 8) (o2 aO (vr 5) (cn (.int 1))))) pN) ah)))) sN) (az (sPut 2 (o2 aO (vr 5) (cn (.int 1))) (bi (ac (o2 aI (o2 aO (vr 6) (cn (.int 0))) (o2 aO (vr 5) (cn (.int 2)))) (ac (vr 7) ah)))) (b8 (cn (.bl true)) (gN 3))))))))
abbrev seG:T->En->Rs En:=gT 2 (eR (gN 4) (eR (gN 5) gsN))
def eL (L:br N2):T:=.lst (L.map eB)
def srcT (L:br N2)(t:T):T:=match t with
 | .int j=>match L[j.toNat]? with
  | some x=>en x.1
  | none=> .non
 | _=> .non
theorem pas_map {L:br N2}:∀ {ks:List Nat} {a b:N2},Ch L a ks b->(eN ks).map (srcT L)=(dU L ks).map en
 | [],_,_,_=>rfl
 | k::r,a,b,h=>by
  rw [h.pas_cons]
  obtain⟨c,m,e,h⟩:=h
  show srcT L (.int k)::(eN r).map (srcT L)=en a::(dU L r).map en
  rw [pas_map h]
  congr 1
  unfold srcT
  simp only [Int.toNat_natCast,e]
theorem any_en (v:N2):∀ (l:List N2),anyEq (en v) (l.map en)=decide (v∈l)
 | [] =>rfl
 | u::l=>by
  have ih:=any_en v l
  unfold anyEq at ih ⊢
  rw [List.map_cons,List.any_cons,ih,beq_en]
  by_cases h:u=v
  ·subst h;simp
  ·have h':¬ v=u:=fun z=>h z.symm
   simp [h,h']
theorem first_en (v:N2):∀ (l:List N2) (n:Nat),v∈l->firstEq (en v) (l.map en) n=some (n+l.idxOf v)
 | [],n,h=>by simp at h
 | u::l,n,h=>by
  rw [List.map_cons,firstEq,beq_en,List.idxOf_cons]
  by_cases z:u=v
  ·subst z;simp
  ·have h':v∈l:=(List.mem_cons.mp h).elim (fun y=>absurd y.symm z) id
   have zb:(u == v)=false:=by rw [beq_eq_false_iff_ne];exact z
   rw [zb,decide_eq_false z,if_neg Bool.false_ne_true,first_en v l (n+1) h']
   simp only [cond_false]
   congr 1
   omega
theorem nd_en (v:N2):(en v).nd=true:=rfl
theorem nds_map {α:Type}(f:α->T)(h:∀ a,(f a).nd=true):∀ l:List α,nds (l.map f)=true
 | [] =>rfl
 | a::l=>by rw [List.map_cons,nds,h a,nds_map f h l];rfl
theorem dep_en (v:N2):(en v).dep<=60:=by show(T.tup [.int v.c,.int v.k]).dep<=60;simp [T.dep,deps]
theorem in_en (v:N2)(l:List N2):inT (en v) (.lst (l.map en))= .ok (.bl (decide (v∈l))):=by
 show(if (_\/_)/\_/\(T.lst (l.map en)).nd=true then _ else _)=_
 rw [if_pos ⟨.inl (dep_en v),rfl,nds_map en nd_en l⟩,any_en]
theorem index_en (v:N2)(l:List N2)(h:v∈l):fY (.lst (l.map en)) (en v)= .ok (.int ((l.idxOf v:Nat):Int)):=by
 unfold fY
 simp only
 rw [if_pos ⟨.inl (dep_en v),rfl,nds_map en nd_en l⟩,first_en v l 0 h,Nat.zero_add]
theorem eN_app (p q:List Nat):eN (p++q)=eN p++eN q:=by unfold eN;rw [List.map_append]
theorem nks_eN (D:Bool):∀ ks:List Nat,nks D (eN ks)=true
 | [] =>rfl
 | k::r=>by show nks D (.int k::eN r)=true;unfold nks;rw [nks_eN D r];rfl
theorem Ch.len {L:br N2}{ks:List Nat}{a b:N2}(h:Ch L a ks b)(hn:(dU L ks).Nodup):ks.length<=L.length:=by
 have:=nodup_len (h.nodup hn) (m:=List.range L.length) fun k hk=>List.mem_range.mpr (h.lt k hk)
 rwa [List.length_range]at this
def TurnP (L:br N2)(P ns:List N2)(b:b7 N2)(k:Nat)(x:N2×N2×Int)(st:T)(mv:Bool)(s6 s7 s8:Sl):Sum (Option (b7 N2)) (List Nat)->Prop
 | .inl none=> ∃s6' s7' s8',seF [.va (eL L),.va st,.ow (.dct (ns.map en) (dV ns b)),.va (.bl mv),.va (.int k),.va (eB x),s6,s7,s8] = .ok (.ct [.va (eL L),.va st,.ow (.dct (ns.map en) (dV ns b)),.va (.bl mv),.va (.int k),.va (eB x),s6',s7',s8'])
 | .inl (some b')=> ∃ns' s6' s7' s8',DR P ns' b'/\seF [.va (eL L),.va st,.ow (.dct (ns.map en) (dV ns b)),.va (.bl mv),.va (.int k),.va (eB x),s6,s7,s8] = .ok (.nx [.va (eL L),.va st,.ow (.dct (ns'.map en) (dV ns' b')),.va (.bl true),.va (.int k),.va (eB x),s6',s7',s8'])
 | .inr q=>seF [.va (eL L),.va st,.ow (.dct (ns.map en) (dV ns b)),.va (.bl mv),.va (.int k),.va (eB x),s6,s7,s8] = .ok (.rt (.tup [.non,.lst (eN q)]))
theorem se_turn {L:br N2}{S P ns:List N2}{b:b7 N2}{k:Nat}{x:N2×N2×Int}(K:Kept L S b)(D:DR P ns b)(hL:L.length<=500)(hP:P.length<1000)(e:L[k]? =some x)(hx:x.2.1∈P)(st:T)(mv:Bool)(s6 s7 s8:Sl) :
  TurnP L P ns b k x st mv s6 s7 s8 (gk L b k x):=by
 obtain⟨a,c,m⟩:=x
 unfold TurnP
 generalize hks:ns.map en=ks
 generalize hvs:dV ns b=vs
 have get:∀ s7 s8,ln 2 (oD dgetT (vr 2) (o2 aO (vr 5) (cn (.int 0)))) [.va (eL L),.va st,.ow (.dct ks vs),.va (.bl mv),.va (.int k),.va (eB (a,c,m)),s6,s7,s8] = .ok (oW (b a)):=fun s7 s8=>by
  refine k_ln (o:=.dct ks vs) rfl (k_oD (ks:=ks) (vs:=vs) (u:=en a) rfl rfl ?_) ?_
  ·unfold dgetT
   rw [a7,<-hks,<-hvs]
   simp only [D.get]
   cases b a <;> rfl
  ·cases b a with
   | none=>rfl
   | some y=>show nks true [.int y.1,.lst (eN y.2)] =true;simp [nks,T.nk,nks_eN]
 have s1:∀ G,az (b8 (ln 2 (oD dgetT (vr 2) (o2 aO (vr 5) (cn (.int 0))))) (gN 6)) G [.va (eL L),.va st,.ow (.dct ks vs),.va (.bl mv),.va (.int k),.va (eB (a,c,m)),s6,s7,s8] =G [.va (eL L),.va st,.ow (.dct ks vs),.va (.bl mv),.va (.int k),.va (eB (a,c,m)),.va (oW (b a)),s7,s8]:=fun G=>
  ax (bN (t:=oW (b a)) (get s7 s8) rfl)
 cases qa:b a with
 | none=>
  rw [show gk L b k (a,c,m)= .inl none from by unfold gk;simp only [qa]]
  simp only
  refine⟨.va .non,s7,s8,?_⟩
  unfold seF
  rw [s1,qa]
  exact k_seqc (ck (F:=sCt) (k_or1 (a8 (aw (t:=.non) (u:=.non) rfl rfl rfl))))
 | some y=>
  obtain⟨d,w⟩:=y
  have bt:∀ s7 s8,lnB 2 (tb (cl cR (ac (vr 2) (ac (vr 5) (ac (vr 6) ah))))) [.va (eL L),.va st,.ow (.dct ks vs),.va (.bl mv),.va (.int k),.va (eB (a,c,m)),.va (eW (d,w)),s7,s8] = .ok (dO b c (d+m)):=fun s7 s8=>by
   refine k_lnB (a8 (aL (ts:=[.dct ks vs,eB (a,c,m),eW (d,w)]) rfl ?_))
   rw [<-hks,<-hvs]
   exact e_better D (a,c,m) d w
  have nn:tb (o2 gg (vr 6) (cn .non)) [.va (eL L),.va st,.ow (.dct ks vs),.va (.bl mv),.va (.int k),.va (eB (a,c,m)),.va (eW (d,w)),s7,s8] = .ok false:=a8 (aw (t:=eW (d,w)) (u:=.non) rfl rfl rfl)
  have cond:=k_or0 nn (c8 (bt s7 s8))
  have s1':∀ G,az (b8 (ln 2 (oD dgetT (vr 2) (o2 aO (vr 5) (cn (.int 0))))) (gN 6)) G [.va (eL L),.va st,.ow (.dct ks vs),.va (.bl mv),.va (.int k),.va (eB (a,c,m)),s6,s7,s8] =G [.va (eL L),.va st,.ow (.dct ks vs),.va (.bl mv),.va (.int k),.va (eB (a,c,m)),.va (eW (d,w)),s7,s8]:=fun G=>by rw [s1 G,qa];rfl
  cases hb:dO b c (d+m)with
  | false=>
   rw [show gk L b k (a,c,m)= .inl none from by unfold gk;simp only [qa,hb];rfl]
   simp only
   rw [hb]at cond
   refine⟨.va (eW (d,w)),s7,s8,?_⟩
   unfold seF
   rw [s1']
   exact k_seqc (ck (F:=sCt) cond)
  | true=>
   rw [hb]at cond
   obtain⟨s,hs,h1,h2,h3,h4,h5⟩:=K.walk a d w qa
   have hch:Ch L s (w++ [k]) c:=h1.snoc e
   have hwl:w.length<=500:=Nat.le_trans (Ch.len h1 h4) hL
   have s2:∀ G,az (fo (orB (tb (o2 gg (vr 6) (cn .non))) (dM (lnB 2 (tb (cl cR (ac (vr 2) (ac (vr 5) (ac (vr 6) ah)))))))) sCt sN) G [.va (eL L),.va st,.ow (.dct ks vs),.va (.bl mv),.va (.int k),.va (eB (a,c,m)),.va (eW (d,w)),s7,s8] =G [.va (eL L),.va st,.ow (.dct ks vs),.va (.bl mv),.va (.int k),.va (eB (a,c,m)),.va (eW (d,w)),s7,s8]:=fun G=>
    ax (ρ':=[.va (eL L),.va st,.ow (.dct ks vs),.va (.bl mv),.va (.int k),.va (eB (a,c,m)),.va (eW (d,w)),s7,s8]) ((cG (F:=sCt) (G:=sN) cond).trans rfl)
   have wk:o2 aI (o2 aO (vr 6) (cn (.int 1))) (bY (ac (vr 4) ah)) [.va (eL L),.va st,.ow (.dct ks vs),.va (.bl mv),.va (.int k),.va (eB (a,c,m)),.va (eW (d,w)),s7,s8] = .ok (.lst (eN (w++ [k]))):=by
    refine aw (t:=.lst (eN w)) (u:=.lst (eN [k])) rfl (eE (ts:=[.int k]) rfl (au (k:=1) (by simp))) ?_
    show mkLst (eN w++eN [k])=_
    rw [<-eN_app]
    unfold mkLst
    rw [if_pos (au (k:=1000) (by unfold eN;rw [List.length_map,List.length_append];simp;omega))]
   have s3:∀ G,az (b8 (o2 aI (o2 aO (vr 6) (cn (.int 1))) (bY (ac (vr 4) ah))) (gN 7)) G [.va (eL L),.va st,.ow (.dct ks vs),.va (.bl mv),.va (.int k),.va (eB (a,c,m)),.va (eW (d,w)),s7,s8] =G [.va (eL L),.va st,.ow (.dct ks vs),.va (.bl mv),.va (.int k),.va (eB (a,c,m)),.va (eW (d,w)),.va (.lst (eN (w++ [k]))),s8]:=fun G=>ax (bN wk rfl)
   have ps:fw (iS (vr 7)) [none,some 0] (gN 0) bT (o2 aO (o2 aO (vr 1) (vr 0)) (cn (.int 0))) [.va (eL L),.va st,.ow (.dct ks vs),.va (.bl mv),.va (.int k),.va (eB (a,c,m)),.va (eW (d,w)),.va (.lst (eN (w++ [k]))),s8] = .ok (.lst ((dU L (w++ [k])).map en)):=by
    rw [<-pas_map hch]
    refine k_lc (ts:=eN (w++ [k])) (k_iSl rfl) (au (k:=1000) (by unfold eN;rw [List.length_map,List.length_append];simp;omega)) (by simp) fun t ht=> ?_
    unfold eN at ht
    obtain⟨j,hj,rfl⟩:=List.mem_map.mp ht
    have hjl:=hch.lt j hj
    refine aw (t:=eB L[j]) (u:=.int 0) (k_ixl (l:=L.map eB) (n:=j) rfl rfl (by rw [List.getElem?_map,List.getElem?_eq_getElem hjl];rfl)) rfl ?_
    unfold srcT
    simp only [Int.toNat_natCast,List.getElem?_eq_getElem hjl]
    rfl
   have s4:∀ G,az (b8 (fw (iS (vr 7)) [none,some 0] (gN 0) bT (o2 aO (o2 aO (vr 1) (vr 0)) (cn (.int 0)))) (gN 8)) G [.va (eL L),.va st,.ow (.dct ks vs),.va (.bl mv),.va (.int k),.va (eB (a,c,m)),.va (eW (d,w)),.va (.lst (eN (w++ [k]))),s8] =G [.va (eL L),.va st,.ow (.dct ks vs),.va (.bl mv),.va (.int k),.va (eB (a,c,m)),.va (eW (d,w)),.va (.lst (eN (w++ [k]))),.va (.lst ((dU L (w++ [k])).map en))]:=fun G=>ax (bN ps rfl)
   have inn:tb (o2 inT (o2 aO (vr 5) (cn (.int 1))) (vr 8)) [.va (eL L),.va st,.ow (.dct ks vs),.va (.bl mv),.va (.int k),.va (eB (a,c,m)),.va (eW (d,w)),.va (.lst (eN (w++ [k]))),.va (.lst ((dU L (w++ [k])).map en))] = .ok (decide (c∈dU L (w++ [k]))):=
    a8 (aw (t:=en c) (u:=.lst ((dU L (w++ [k])).map en)) rfl rfl (in_en c _))
   by_cases hn:c∈dU L (w++ [k])
   ·rw [show gk L b k (a,c,m)= .inr ((w++ [k]).drop ((dU L (w++ [k])).idxOf c))from by unfold gk;simp only [qa,hb,if_pos hn,if_true]]
    simp only
    unfold seF
    rw [s1',s2,s3,s4]
    rw [decide_eq_true hn]at inn
    refine cx ((ck inn).trans (bB ?_))
    have sle:sl (vr 7) (pS (oL fY (vr 8) (o2 aO (vr 5) (cn (.int 1))))) pN [.va (eL L),.va st,.ow (.dct ks vs),.va (.bl mv),.va (.int k),.va (eB (a,c,m)),.va (eW (d,w)),.va (.lst (eN (w++ [k]))),.va (.lst ((dU L (w++ [k])).map en))] = .ok (.lst (eN ((w++ [k]).drop ((dU L (w++ [k])).idxOf c)))):=by
     rw [k_sll (l:=eN (w++ [k])) (lo:=some (((dU L (w++ [k])).idxOf c:Nat):Int)) (hi:=none) rfl (k_pS (k_oL (ks:=(dU L (w++ [k])).map en) (u:=en c) rfl rfl (index_en c _ hn))) rfl,cut_drop]
     unfold eN
     rw [List.map_drop]
    exact(cF (ts:=[.non,.lst (eN ((w++ [k]).drop ((dU L (w++ [k])).idxOf c)))]) (al rfl (al sle rfl)) (au (k:=2) (by simp)))
   ·rw [show gk L b k (a,c,m)= .inl (some (Gr.put b c (d+m,w++ [k])))from by unfold gk;simp only [qa,hb,if_neg hn,if_true]]
    simp only
    rw [decide_eq_false hn]at inn
    obtain⟨ns',D',hd⟩:=D.put hx (d+m,w++ [k])
    refine⟨ns',.va (eW (d,w)),.va (.lst (eN (w++ [k]))),.va (.lst ((dU L (w++ [k])).map en)),D',?_⟩
    unfold seF
    rw [s1',s2,s3,s4]
    rw [ax (ρ':=[.va (eL L),.va st,.ow (.dct ks vs),.va (.bl mv),.va (.int k),.va (eB (a,c,m)),.va (eW (d,w)),.va (.lst (eN (w++ [k]))),.va (.lst ((dU L (w++ [k])).map en))]) ((cG (G:=sN) inn).trans rfl)]
    have pt:sPut 2 (o2 aO (vr 5) (cn (.int 1))) (bi (ac (o2 aI (o2 aO (vr 6) (cn (.int 0))) (o2 aO (vr 5) (cn (.int 2)))) (ac (vr 7) ah))) [.va (eL L),.va st,.ow (.dct ks vs),.va (.bl mv),.va (.int k),.va (eB (a,c,m)),.va (eW (d,w)),.va (.lst (eN (w++ [k]))),.va (.lst ((dU L (w++ [k])).map en))]
      = .ok (.nx [.va (eL L),.va st,.ow (.dct (ns'.map en) (dV ns' (Gr.put b c (d+m,w++ [k])))),.va (.bl mv),.va (.int k),.va (eB (a,c,m)),.va (eW (d,w)),.va (.lst (eN (w++ [k]))),.va (.lst ((dU L (w++ [k])).map en))]):=by
     have ev:bi (ac (o2 aI (o2 aO (vr 6) (cn (.int 0))) (o2 aO (vr 5) (cn (.int 2)))) (ac (vr 7) ah)) [.va (eL L),.va st,.ow (.dct ks vs),.va (.bl mv),.va (.int k),.va (eB (a,c,m)),.va (eW (d,w)),.va (.lst (eN (w++ [k]))),.va (.lst ((dU L (w++ [k])).map en))] = .ok (eW (d+m,w++ [k])):=
      cF (ts:=[.int (d+m),.lst (eN (w++ [k]))]) rfl (au (k:=2) (by simp))
     have ek:o2 aO (vr 5) (cn (.int 1)) [.va (eL L),.va st,.ow (.dct ks vs),.va (.bl mv),.va (.int k),.va (eB (a,c,m)),.va (eW (d,w)),.va (.lst (eN (w++ [k]))),.va (.lst ((dU L (w++ [k])).map en))] = .ok (en c):=rfl
     show(bi _ _ >>= fun v=>o2 aO (vr 5) (cn (.int 1)) _ >>= fun kk=>match aR kk with | some _=>if ks.length<1000 then Rs.ok (Fl.nx _)else .bad | none=> .bad)=_
     rw [ev,aD,ek,aD,a7]
     have hlen:ks.length<1000:=by rw [<-hks,List.length_map];exact Nat.lt_of_le_of_lt (nodup_len D.nd D.sub) hP
     simp only [if_pos hlen]
     have hd1:fT (en c) (eW (d+m,w++ [k])) ks vs=(ns'.map en,dV ns' (Gr.put b c (d+m,w++ [k]))):=by rw [<-hks,<-hvs];exact hd
     rw [hd1]
     rfl
    rw [ax pt]
    exact bN (t:=.bl true) rfl rfl
def rho (L:br N2)(st:T)(ns:List N2)(b:b7 N2)(mv:Bool)(s4 s5 s6 s7 s8:Sl):En:=[.va (eL L),.va st,.ow (.dct (ns.map en) (dV ns b)),.va (.bl mv),s4,s5,s6,s7,s8]
def SweepP (L:br N2)(P:List N2)(st:T)(X:Rs Fl):Sum (b7 N2×Bool) (List Nat)->Prop
 | .inr q=>X= .ok (.rt (.tup [.non,.lst (eN q)]))
 | .inl (b',mv')=> ∃ns' s4 s5 s6 s7 s8,DR P ns' b'/\X= .ok (.nx (rho L st ns' b' mv' s4 s5 s6 s7 s8))
theorem se_loop {L:br N2}{S P:List N2}(hL:L.length<=500)(hP:P.length<1000)(hx:∀ x∈L,x.2.1∈P)(st:T):∀ (r:br N2) (k:Nat) (b:b7 N2) (mv:Bool) (ns:List N2) (s4 s5 s6 s7 s8:Sl),L.drop k=r->Kept L S b->DR P ns b →
  SweepP L P st (aP seG seF (ba k (r.map eB)) (rho L st ns b mv s4 s5 s6 s7 s8)) (sweep L k r b mv)
 | [],k,b,mv,ns,s4,s5,s6,s7,s8,_,K,D=>⟨ns,s4,s5,s6,s7,s8,D,rfl⟩
 | x::r,k,b,mv,ns,s4,s5,s6,s7,s8,hr,K,D=>by
  have e:L[k]? =some x:=by
   have:=congrArg (·[0]?) hr
   simpa using this
  have hr':L.drop (k+1)=r:=by
   have:=congrArg (List.drop 1) hr
   simpa [List.drop_drop,Nat.add_comm]using this
  have tg:seG (.tup [.int k,eB x]) (rho L st ns b mv s4 s5 s6 s7 s8)= .ok [.va (eL L),.va st,.ow (.dct (ns.map en) (dV ns b)),.va (.bl mv),.va (.int k),.va (eB x),s6,s7,s8]:=rfl
  have tn:=se_turn K D hL hP e (hx x (List.mem_of_getElem? e)) st mv s6 s7 s8
  rw [sweep,List.map_cons,ba]
  cases q:gk L b k x with
  | inr w=>
   rw [q]at tn
   simp only
   unfold SweepP
   exact k_loopr tg tn
  | inl o=>
   rw [q]at tn
   cases o with
   | none=>
    obtain⟨s6',s7',s8',tn⟩:=tn
    simp only
    rw [k_loopc tg tn]
    exact se_loop hL hP hx st r (k+1) b mv ns _ _ _ _ _ hr' K D
   | some b'=>
    obtain⟨ns',s6',s7',s8',D',tn⟩:=tn
    simp only
    rw [cy tg tn]
    refine se_loop (S:=S) hL hP hx st r (k+1) b' true ns' _ _ _ _ _ hr' ?_ D'
    -- what is kept stays so
    obtain⟨a,c,m⟩:=x
    unfold gk at q
    cases qa:b a with
    | none=>simp only [qa]at q;cases q
    | some y=>
     obtain⟨d,w⟩:=y
     simp only [qa]at q
     split at q
     ·rename_i hb
      split at q
      ·cases q
      ·rename_i hn
       cases q
       exact K.put e qa hb hn
     ·cases q
abbrev wF:En->Rs Fl:=az (b8 (cn (.bl false)) (gN 3)) (dy (iE (ac (vr 0) ah)) seG seF)
def SetP (L:br N2)(P:List N2)(st:T)(X:Rs Fl):Sum (b7 N2) (List Nat)->Prop
 | .inr q=>X= .ok (.rt (.tup [.non,.lst (eN q)]))
 | .inl b'=> ∃ns' s4 s5 s6 s7 s8,DR P ns' b'/\X= .ok (.nx (rho L st ns' b' false s4 s5 s6 s7 s8))
theorem se_while {L:br N2}{S P:List N2}(hL:L.length<=500)(hP:P.length<1000)(hx:∀ x∈L,x.2.1∈P)(st:T):∀ (n:Nat) (b:b7 N2) (ns:List N2) (s4 s5 s6 s7 s8:Sl) (r:Sum (b7 N2) (List Nat)),Kept L S b->DR P ns b->Gr.settle L n b=some r →
  SetP L P st (bw (tb (vr 3)) wF (n+1) (rho L st ns b true s4 s5 s6 s7 s8)) r
 | 0,_,_,_,_,_,_,_,_,_,_,h=>by cases h
 | n+1,b,ns,s4,s5,s6,s7,s8,r,K,D,h=>by
  have sw:=se_loop hL hP hx st L 0 b false ns s4 s5 s6 s7 s8 rfl K D
  have ok:=sweep_ok (S:=S) L 0 b false rfl K
  have body:∀ X,aP seG seF (ba 0 (L.map eB)) (rho L st ns b false s4 s5 s6 s7 s8)= .ok X->wF (rho L st ns b true s4 s5 s6 s7 s8)= .ok X:=fun X hX=>by
   show az _ _ _=_
   rw [ax (ρ':=rho L st ns b false s4 s5 s6 s7 s8) (bN (t:=.bl false) rfl rfl)]
   exact cT (ts:=ba 0 (L.map eB)) (k_iEl rfl) hX
  have tt:tb (vr 3) (rho L st ns b true s4 s5 s6 s7 s8)= .ok true:=rfl
  rw [Gr.settle]at h
  revert sw ok h
  generalize sweep L 0 L b false=R
  intro h sw ok
  cases R with
  | inr q=>
   simp only at h
   cases h
   exact k_whiler tt (body _ sw)
  | inl p=>
   obtain⟨b',mv'⟩:=p
   obtain⟨ns',t4,t5,t6,t7,t8,D',sw⟩:=sw
   obtain⟨K',_⟩:=ok
   cases mv' with
   | true=>
    simp only at h
    have ih:=se_while hL hP hx st n b' ns' t4 t5 t6 t7 t8 r K' D' h
    rw [k_while1 tt (body _ sw)]
    exact ih
   | false=>
    simp only at h
    cases h
    refine⟨ns',t4,t5,t6,t7,t8,D',?_⟩
    rw [k_while1 tt (body _ sw)]
    exact k_while0 rfl
theorem gt {c:En->Rs Bool}{F:En->Rs Fl}{x:Fl}:∀ {n m:Nat} {ρ:En},n<=m->bw c F n ρ= .ok x->bw c F m ρ= .ok x
 | 0,_,_,_,h=>by cases h
 | n+1,0,_,hl,_=>absurd hl (by omega)
 | n+1,m+1,ρ,hl,h=>by
  unfold bw at h ⊢
  cases q:c ρ with
  | bad=>rw [q]at h;cases h
  | err _=>rw [q]at h;cases h
  | ok k=>
   rw [q]at h
   cases k with
   | false=>exact h
   | true=>
    simp only at h ⊢
    cases q2:F ρ with
    | bad=>rw [q2]at h;cases h
    | err _=>rw [q2]at h;cases h
    | ok f=>
     rw [q2]at h
     cases f with
     | nx ρ'=>exact gt (by omega) h
     | ct ρ'=>exact gt (by omega) h
     | bk ρ'=>exact h
     | rt t=>exact h
theorem prs_en (w:T):∀ S:List N2,prs (S.map fun v=> .tup [en v,w])=some (S.map fun v=>(en v,w))
 | [] =>rfl
 | v::S=>by rw [List.map_cons,prs,a7,prs_en w S];rfl
theorem dputs_en (w:T):∀ (S ns:List N2) (g:N2->T),(ns++S).Nodup->(∀v∈S,g v=w)->dputs (S.map fun v=>(en v,w)) (ns.map en,ns.map g)=((ns++S).map en,(ns++S).map g)
 | [],ns,g,_,_=>by rw [List.append_nil];rfl
 | v::S,ns,g,hn,hg=>by
  have hv:v∉ns:=fun z=>by
   rw [List.nodup_append]at hn
   exact hn.2.2 v z v List.mem_cons_self rfl
  rw [List.map_cons,dputs,dput_out _ _ _ _ hv]
  have e1:ns.map en++ [en v] =(ns++ [v]).map en:=by rw [List.map_append];rfl
  have e2:ns.map g++ [w] =(ns++ [v]).map g:=by rw [List.map_append,<-hg v List.mem_cons_self];rfl
  rw [e1,e2,dputs_en w S (ns++ [v]) g (by rw [List.append_assoc];exact hn) fun u hu=>hg u (List.mem_cons_of_mem _ hu),List.append_assoc]
  rfl
theorem dict_en (w:T)(S:List N2)(hn:S.Nodup)(hl:S.length<=1000):dictT [.lst (S.map fun v=> .tup [en v,w])] = .ok (.dct (S.map en) (S.map fun _=>w)):=by
 unfold dictT
 simp only [prs_en]
 rw [if_pos (by rw [List.length_map];exact hl)]
 have:=dputs_en w S [] (fun _=>w) (by simpa using hn) (fun _ _=>rfl)
 rw [List.nil_append]at this
 rw [show(([]:List T),([]:List T))=(([]:List N2).map en,([]:List N2).map fun _=>w)from rfl,this]
def eS (S:List N2):T:=.lst (S.map en)
def SettleP (L:br N2)(P:List N2)(X:Rs T):Sum (b7 N2) (List Nat)->Prop
 | .inr q=>X= .ok (.tup [.non,.lst (eN q)])
 | .inl b'=> ∃ns',DR P ns' b'/\X= .ok (.tup [.dct (ns'.map en) (dV ns' b'),.non])
structure Fine (L:br N2)(P:List N2):Prop where
 len:L.length<=500
 size:size L<=100000000
 ends:∀ x∈L,x.1∈P/\x.2.1∈P
 pl:P.length<1000
def SOk (L:br N2)(S:List N2):Sum (b7 N2) (List Nat)->Prop
 | .inr q=>Bar L q
 | .inl b'=>Settled L S b'
theorem e_settle {L:br N2}{S P:List N2}(F:Fine L P)(hS:S.Nodup)(hSP:∀ v∈S,v∈P):∃ r,SettleP L P (dg [eL L,eS S]) r/\SOk L S r:=by
 have bound:L.length*(2*size L+1)<1000000000000 - 1:=by
  have h1:=F.len
  have h2:=F.size
  have:L.length*(2*size L+1)<=500*(2*100000000+1):=Nat.mul_le_mul h1 (by omega)
  omega
 obtain⟨r,hr,ok⟩:=settle_all L S bound
 have ok':SOk L S r:=by cases r <;> exact ok
 refine⟨r,?_,ok'⟩
 have hSl:S.length<=1000:=Nat.le_trans (nodup_len hS hSP) (by have:=F.pl;omega)
 have D0:DR P S (Gr.start S):=⟨hS,fun v=>by unfold Gr.start;by_cases h:v∈S <;> simp [h],hSP⟩
 have dv0:dV S (Gr.start S)=S.map fun _=>eW (0,[]):=List.map_congr_left fun v hv=>by unfold Gr.start;rw [if_pos hv];rfl
 have w:=se_while F.len F.pl (fun x hx=>(F.ends x hx).2) (eS S) _ (Gr.start S) S .em .em .em .em .em r (kept_start L S) D0 hr
 have lc:fw (iS (vr 1)) [none] (gN 0) bT (bi (ac (vr 0) (ac (bi (ac (cn (.int 0)) (ac (bY ah) ah))) ah))) [.va (eL L),.va (eS S),.em,.em,.em,.em,.em,.em,.em] = .ok (.lst (S.map fun v=> .tup [en v,eW (0,[])])):=by
  have:=k_lc (fi:=iS (vr 1)) (src:=[none]) (fe:=bi (ac (vr 0) (ac (bi (ac (cn (.int 0)) (ac (bY ah) ah))) ah))) (h:=fun t=> .tup [t,eW (0,[])]) (ρ:=[.va (eL L),.va (eS S),.em,.em,.em,.em,.em,.em,.em]) (ts:=S.map en) (k_iSl rfl) (au (k:=1000) (by rw [List.length_map];exact hSl)) (by simp) fun t _=>
   cF (ts:=[t,eW (0,[])]) (al rfl (al (cF (ts:=[.int 0,.lst []]) (al rfl (al (eE (ts:=[]) rfl (Nat.zero_le _)) rfl)) (au (k:=2) (by simp))) rfl)) (au (k:=2) (by simp))
  rw [this,List.map_map];rfl
 have n0:sNewD 2 (fw (iS (vr 1)) [none] (gN 0) bT (bi (ac (vr 0) (ac (bi (ac (cn (.int 0)) (ac (bY ah) ah))) ah)))) [.va (eL L),.va (eS S),.em,.em,.em,.em,.em,.em,.em] = .ok (.nx [.va (eL L),.va (eS S),.ow (.dct (S.map en) (dV S (Gr.start S))),.em,.em,.em,.em,.em,.em]):=by
  unfold sNewD
  rw [lc,aD,dict_en _ S hS hSl,aD,dv0]
  rfl
 have main:∀ G X,bw (tb (vr 3)) wF FU (rho L (eS S) S (Gr.start S) true .em .em .em .em .em)= .ok X->fQ [.va (eL L),.va (eS S),.em,.em,.em,.em,.em,.em,.em] =G->(az (bw (tb (vr 3)) wF FU) (sDis 2 (aM (bi (ac (vr 2) (ac (cn .non) ah)))))) (rho L (eS S) S (Gr.start S) true .em .em .em .em .em)=G:=fun G X _ h=>by
  rw [<-h]
  unfold fQ
  rw [ax n0,ax (ρ':=rho L (eS S) S (Gr.start S) true .em .em .em .em .em) (bN (t:=.bl true) rfl rfl)]
 cases r with
 | inr q=>
  have w':=gt (m:=FU) (by unfold FU;omega) w
  refine aY rfl ?_
  show fQ [.va (eL L),.va (eS S),.em,.em,.em,.em,.em,.em,.em] =_
  rw [<-main _ _ w' rfl]
  exact cx w'
 | inl b'=>
  obtain⟨ns',s4,s5,s6,s7,s8,D',w⟩:=w
  have w':=gt (m:=FU) (by unfold FU;omega) w
  refine⟨ns',D',aY rfl ?_⟩
  show fQ [.va (eL L),.va (eS S),.em,.em,.em,.em,.em,.em,.em] =_
  rw [<-main _ _ w' rfl,ax w']
  exact k_dis (bB (cF (ts:=[.dct (ns'.map en) (dV ns' b'),.non]) rfl (au (k:=2) (by simp))))
theorem lift_map {α:Type}{f:α->T}{p:α->Prop}:∀ {l:List T},(∀t∈l,∃x,t=f x/\p x)->∃ L:List α,l=L.map f/\∀ x∈L,p x
 | [],_=>⟨[],rfl,fun _ h=>nomatch h⟩
 | t::l,h=>by
  obtain⟨x,e,hx⟩:=h t List.mem_cons_self
  obtain⟨L,e2,h2⟩:=lift_map (l:=l) fun u hu=>h u (List.mem_cons_of_mem _ hu)
  exact⟨x::L,by rw [e,e2];rfl,fun y hy=>(List.mem_cons.mp hy).elim (fun z=>z▸hx) (h2 y)⟩
theorem clock_vals {t:T}(h:bn t=true):∃ (x y:Int) (r:List Int),t= .tup [.int x,.int y,.tup (r.map .int)]/\(0<=x/\x<=9)/\(0<=y/\y<=9)/\∀ k,0<=r.getD k 0/\r.getD k 0<=99:=by
 obtain⟨x,y,r,rfl,h1,h2,h3,h4⟩:=gI h
 refine⟨x,y,r,rfl,h1,h2,fun k=> ?_⟩
 have h':(pace (.int x) (.int y)&&cN (.tup (r.map .int)))=true:=h
 rw [Bool.and_eq_true]at h'
 have hr:=h'.2
 unfold cN at hr
 rw [Bool.and_eq_true]at hr
 have hr2:(((r.map T.int).all fun u=>aK u 0 99)&&(match nums (r.map .int)with | some m=>ris m | none=>false))=true:=hr.2
 rw [Bool.and_eq_true]at hr2
 by_cases hk:k<r.length
 ·have:=List.all_eq_true.mp hr2.1 (.int r[k]) (List.mem_map.mpr ⟨_,List.getElem_mem hk,rfl⟩)
  obtain⟨i,e,a,b⟩:=cO this
  cases e
  simp [hk]
  exact⟨a,b⟩
 ·simp [hk]
theorem mem_xev {cs:List T}{i:Nat}:∀ {cs0:List T} {c k:Nat},i<=c->c<i+cs0.length->k<rdN (cs0.getD (c - i) .non)->T.tup [.int c,.int k] ∈eF i cs0:=by
 intro cs0
 induction cs0 generalizing i with
 | nil=>intro c k h1 h2;simp at h2;omega
 | cons a r ih=>
  intro c k h1 h2 h3
  rw [eF,List.mem_append]
  by_cases e:c=i
  ·subst e
   rw [Nat.sub_self]at h3
   have h3':k<rdN a:=h3
   exact .inl (List.mem_map.mpr ⟨.int k,mem_rng h3',rfl⟩)
  ·refine .inr (ih (by omega) (by rw [List.length_cons]at h2;omega) ?_)
   rw [show c - i=(c - (i+1))+1 by omega]at h3
   exact h3
theorem event_mem {cs:List T}{t:T}(h:a9 cs t=true):t∈eF 0 cs:=by
 obtain⟨c,k,rfl⟩:=eG h
 unfold a9 at h
 simp only [Bool.and_eq_true,decide_eq_true_eq]at h
 obtain⟨⟨h1,h2⟩,h3,h4⟩:=h
 obtain⟨c,rfl⟩:=Int.eq_ofNat_of_zero_le h1
 obtain⟨k,rfl⟩:=Int.eq_ofNat_of_zero_le h3
 rw [reads_rdN]at h4
 exact mem_xev (cs:=cs) (Nat.zero_le _) (by omega) (by rw [Nat.sub_zero];omega)
theorem ev_en {cs:List T}{t:T}(h:t∈eF 0 cs):∃ v:N2,t=en v/\True:=by
 obtain⟨c,k,rfl,_⟩:=mem_evs cs 0 h
 exact⟨⟨c,k⟩,rfl,trivial⟩
def big (x:N2×N2×Int):Prop:=x.2.2.natAbs<=999
theorem mul_small {a b:Int}(ha : -99<=a/\a<=99)(hb:0<=b/\b<=9):(a*b).natAbs<=999:=by
 rw [Int.natAbs_mul]
 have h1:a.natAbs<=99:=by omega
 have h2:b.natAbs<=9:=by omega
 exact Nat.le_trans (Nat.mul_le_mul h1 h2) (by decide)
theorem bC_eb {cs0:List T}:∀ {cs:List T} {i:Nat},(∀c∈cs,bn c=true)->(∀c k:Nat,i<=c->c<i+cs.length->k<rdN (cs.getD (c - i) .non)->T.tup [.int c,.int k] ∈eF 0 cs0) →
  ∀t∈bC i cs,∃x,t=eB x/\(en x.1∈eF 0 cs0/\en x.2.1∈eF 0 cs0/\big x)
 | [],_,_,_,t,h=>by simp [bC]at h
 | c::cs,i,hc,hm,t,h=>by
  rw [bC,List.mem_append]at h
  rcases h with h | h
  ·obtain⟨x,y,r,rfl,hx,hy,hr⟩:=clock_vals (hc c List.mem_cons_self)
   have hm0:∀ k,k<r.length->T.tup [.int i,.int k] ∈eF 0 cs0:=fun k hk=>hm i k (Nat.le_refl _) (by simp) (by rw [Nat.sub_self];show k<(r.map T.int).length;rw [List.length_map];exact hk)
   rw [xB_is]at h
   unfold cB at h
   obtain⟨k,hk,hp⟩:=List.mem_flatMap.mp h
   have hk:=List.mem_range.mp hk
   have d : -99<=dr r k/\dr r k<=99:=by have:=hr k;have:=hr (k+1);unfold dr;omega
   unfold pr at hp
   simp only [List.mem_cons,List.not_mem_nil,or_false]at hp
   rcases hp with rfl | rfl
   ·exact⟨(⟨i,k⟩,⟨i,((k+1:Nat):Int)⟩,dr r k*y),rfl,hm0 k (by omega),hm0 (k+1) (by omega),mul_small d hy⟩
   ·exact⟨(⟨i,((k+1:Nat):Int)⟩,⟨i,k⟩,-dr r k*x),rfl,hm0 (k+1) (by omega),hm0 k (by omega),mul_small (by omega) hx⟩
  ·exact bC_eb (cs:=cs) (i:=i+1) (fun c h=>hc c (List.mem_cons_of_mem _ h)) (fun c k h1 h2 h3=>hm c k (by omega) (by rw [List.length_cons];omega) (by rw [show c - i=(c - (i+1))+1 by omega];exact h3)) t h
theorem lB_eb {cs:List T}{u:T}(hu:bp cs u=true):∀ t∈lB u,∃x,t=eB x/\(en x.1∈eF 0 cs/\en x.2.1∈eF 0 cs/\big x):=by
 intro t ht
 obtain⟨a,b,x,y,rfl,hd,ha,hb,_⟩:=letter_shape hu
 have ma:=event_mem ha
 have mb:=event_mem hb
 obtain⟨va,rfl,_⟩:=ev_en ma
 obtain⟨vb,rfl,_⟩:=ev_en mb
 unfold ee at hd
 rw [Bool.and_eq_true]at hd
 obtain⟨i,rfl,i1,i2⟩:=cO hd.1
 have e2:lB (.tup [en va,en vb,.int i,y])= .tup [en vb,en va,.int (-i)] ::(if y.isN then []else [.tup [en va,en vb,y]]):=rfl
 rw [e2]at ht
 rcases List.mem_cons.mp ht with rfl | ht
 ·exact⟨(vb,va,-i),rfl,mb,ma,by unfold big;simp only;omega⟩
 ·cases q:y.isN with
  | true=>rw [q]at ht;simp at ht
  | false=>
   rw [q]at ht
   have ht:t= .tup [en va,en vb,y]:=by simpa using ht
   have hw:aK y i 999=true:=by
    cases y with
    | non=>cases q
    | _=>exact hd.2
   obtain⟨j,rfl,j1,j2⟩:=cO hw
   exact⟨(va,vb,j),ht,ma,mb,by unfold big;simp only;omega⟩
structure Rd (cs ls:List T)(L:br N2)(P:List N2):Prop where
 g:Good cs ls
 b:bds cs ls=L.map eB
 e:eF 0 cs=P.map en
 f:Fine L P
 nd:P.Nodup
 pl:P.length<=16
 ll:L.length<=60
 bg:∀ x∈L,big x
theorem size_le {L:br N2}(h:∀ x∈L,big x):size L<=999*L.length:=by
 unfold size
 induction L with
 | nil=>simp
 | cons x L ih=>
  rw [List.map_cons,List.sum_cons,List.length_cons]
  have:=ih fun y hy=>h y (List.mem_cons_of_mem _ hy)
  have:=h x List.mem_cons_self
  unfold big at this
  omega
theorem nodup_un {P:List N2}(h:(P.map en).Nodup):P.Nodup:=by
 induction P with
 | nil=>exact List.nodup_nil
 | cons a r ih=>
  rw [List.map_cons,List.nodup_cons]at h
  exact List.nodup_cons.mpr ⟨fun z=>h.1 (List.mem_map.mpr ⟨a,z,rfl⟩),ih h.2⟩
theorem rd_of {cs ls:List T}(g:Good cs ls):∃ L P,Rd cs ls L P:=by
 obtain⟨hc,c1,c4⟩:=cV g.c
 obtain⟨P,eP,_⟩:=lift_map (f:=en) (p:=fun _=>True) (l:=eF 0 cs) fun t ht=>ev_en ht
 have key:∀ t∈bds cs ls,∃x,t=eB x/\(en x.1∈eF 0 cs/\en x.2.1∈eF 0 cs/\big x):=fun t ht=>by
  unfold bds at ht
  rw [List.mem_append]at ht
  rcases ht with h | h
  ·exact bC_eb hc (fun c k h1 h2 h3=>mem_xev (cs:=cs) h1 h2 h3) t h
  ·obtain⟨u,hu,h⟩:=List.mem_flatMap.mp h
   exact lB_eb (g.l u hu) t h
 obtain⟨L,eL,hL⟩:=lift_map key
 have mem:∀ v:N2,en v∈eF 0 cs->v∈P:=fun v hv=>by
  rw [eP]at hv
  obtain⟨u,hu,e⟩:=List.mem_map.mp hv
  rw [<-en_inj e];exact hu
 have hl:=bds_len g
 rw [eL,List.length_map]at hl
 have hp:=evs_len cs 0 hc
 rw [eP,List.length_map]at hp
 have hs:=size_le fun x hx=>(hL x hx).2.2
 exact⟨L,P,g,eL,eP,⟨by omega,by omega,fun x hx=>⟨mem _ (hL x hx).1,mem _ (hL x hx).2.1⟩,by omega⟩,nodup_un (eP▸nodup_evs cs 0),by omega,hl,fun x hx=>(hL x hx).2.2⟩
def isLst:T->Bool
 | .lst _=>true
 | _=>false
theorem e_isL (t:T)(h:t.pl=true):isT "list" t= .ok (.bl (isLst t)):=by
 cases t <;> first | rfl | (simp [T.pl]at h;done)
def gf (n:Nat)(t:T):Bool:=match t with
 | .lst l=>l.all fun u=>aK u 0 ((n:Int) - 1)
 | _=>false
theorem pl_lst {l:List T}:(T.lst l).pl=plS l:=by unfold T.pl;rfl
theorem e_numbers (L:br N2)(t:T)(h:t.pl=true)(hl:∀ l,t= .lst l->l.length<=1000):ca [eL L,t] = .ok (.bl (gf L.length t)):=by
 refine aY rfl ?_
 show dm [.va (eL L),.va t] =_
 unfold dm
 refine bB ?_
 cases q:isLst t with
 | false=>
  rw [f8 (k_o1 (t:=t) rfl (by rw [e_isL t h,q]))]
  cases t <;> first | rfl | cases q
 | true=>
  cases t with
  | lst l=>
   refine(k_andV (k_o1 (t:=.lst l) rfl rfl)).trans ?_
   refine(aL (ts:=[.lst (l.map fun u=> .bl (aK u 0 ((L.length:Int) - 1)))]) (al ?_ rfl) (all_map _ _))
   refine k_lc (ts:=l) (k_iSl rfl) (au (hl l rfl) (by omega)) (by simp) fun u hu=> ?_
   refine aL (ts:=[u,.int 0,.int ((L.length:Int) - 1)]) (al rfl (al rfl (al (aw (t:=.int (L.length:Int)) (u:=.int 1) (aL (ts:=[eL L]) rfl ?_) rfl rfl) rfl))) (eI _ _ _ (gx (pl_lst▸h) hu))
   show Rs.ok (T.int ((L.map eB).length:Nat))=_
   rw [List.length_map]
  | _=>cases q
theorem nums_ks {n:Nat}{t:T}(h:gf n t=true):∃ ks:List Nat,t= .lst (eN ks)/\∀ k∈ks,k<n:=by
 cases t with
 | lst l=>
  have h:(l.all fun u=>aK u 0 ((n:Int) - 1))=true:=h
  obtain⟨ks,e,hk⟩:=lift_map (f:=fun k:Nat=>T.int (k:Nat)) (p:=fun k=>k<n) (l:=l) fun u hu=>by
   obtain⟨i,rfl,a,b⟩:=cO (List.all_eq_true.mp h u hu)
   obtain⟨k,rfl⟩:=Int.eq_ofNat_of_zero_le a
   exact⟨k,rfl,by omega⟩
  exact⟨ks,by rw [e];rfl,hk⟩
 | _=>cases h
theorem nums_of_ks {n:Nat}{ks:List Nat}(h:∀ k∈ks,k<n):gf n (.lst (eN ks))=true:=by
 show((eN ks).all fun u=>aK u 0 ((n:Int) - 1))=true
 rw [List.all_eq_true]
 intro u hu
 obtain⟨k,hk,rfl⟩:=List.mem_map.mp hu
 have:=h k hk
 unfold aK
 simp;omega
def run (L:br N2):N2->List Nat->Option N2
 | a,[] =>some a
 | a,k::r=>match L[k]? with
  | some x=>if x.1=a then run L x.2.1 r else none
  | none=>none
theorem run_ch {L:br N2}:∀ {ks:List Nat} {a b:N2},run L a ks=some b↔Ch L a ks b
 | [],a,b=>by unfold run Ch;exact⟨fun h=>Option.some.inj h,fun h=>by rw [h]⟩
 | k::r,a,b=>by
  unfold run Ch
  cases q:L[k]? with
  | none=>simp
  | some x=>
   obtain⟨u,v,m⟩:=x
   simp only
   by_cases h:u=a
   ·subst h
    rw [if_pos rfl,run_ch]
    exact⟨fun z=>⟨v,m,rfl,z⟩,fun⟨c,m',e,z⟩=>by cases e;exact z⟩
   ·rw [if_neg h]
    exact⟨fun z=>(by cases z),fun⟨c,m',e,z⟩=>by cases e;exact absurd rfl h⟩
theorem ne_en (u v:N2):neT (en u) (en v)= .ok (.bl (!decide (u=v))):=by
 unfold neT
 rw [if_pos (fP (dep_en u) rfl rfl),beq_en]
theorem eq_en (u v:N2):eqT (en u) (en v)= .ok (.bl (decide (u=v))):=by
 unfold eqT
 rw [if_pos (fP (dep_en u) rfl rfl),beq_en]
theorem at_eL {L:br N2}{k:Nat}{x:N2×N2×Int}{f g:En->Rs T}{ρ:En}(hf:f ρ= .ok (eL L))(hg:g ρ= .ok (.int (k:Nat)))(e:L[k]? =some x):o2 aO f g ρ= .ok (eB x):=
 k_ixl (l:=L.map eB) hf hg (by rw [List.getElem?_map,e];rfl)
abbrev ldF:En->Rs Fl:=(az (fo (tb (o2 neT (o2 aO (o2 aO (vr 0) (vr 5)) (cn (.int 0))) (vr 4))) (aM (cn (.bl false))) sN) (b8 (o2 aO (o2 aO (vr 0) (vr 5)) (cn (.int 1))) (gN 4)))
abbrev ldE (L:br N2)(s1 s2 s3:Sl)(a:N2)(s5:Sl):En:=[.va (eL L),s1,s2,s3,.va (en a),s5]
theorem ld_loop (L:br N2)(s1 s2 s3:Sl):∀ (ks:List Nat) (a:N2) (s5:Sl),(∀k∈ks,k<L.length)->match run L a ks with
  | some c=> ∃s5',aP (gN 5) ldF (eN ks) (ldE L s1 s2 s3 a s5)= .ok (.nx (ldE L s1 s2 s3 c s5'))
  | none=>aP (gN 5) ldF (eN ks) (ldE L s1 s2 s3 a s5)= .ok (.rt (.bl false))
 | [],a,s5,_=>⟨s5,rfl⟩
 | k::ks,a,s5,h=>by
  have hk:=h k List.mem_cons_self
  have e:L[k]? =some L[k]:=List.getElem?_eq_getElem hk
  unfold run
  rw [e]
  simp only
  have c1:tb (o2 neT (o2 aO (o2 aO (vr 0) (vr 5)) (cn (.int 0))) (vr 4)) (ldE L s1 s2 s3 a (.va (.int (k:Nat))))= .ok (!decide (L[k].1=a)):=
   a8 (aw (t:=en L[k].1) (u:=en a) (aw (t:=eB L[k]) (u:=.int 0) (at_eL rfl rfl e) rfl rfl) rfl (ne_en _ _))
  by_cases q:L[k].1=a
  ·rw [if_pos q]
   have ih:=ld_loop L s1 s2 s3 ks L[k].2.1 (.va (.int (k:Nat))) fun j hj=>h j (List.mem_cons_of_mem _ hj)
   have st:ldF (ldE L s1 s2 s3 a (.va (.int (k:Nat))))= .ok (.nx (ldE L s1 s2 s3 L[k].2.1 (.va (.int (k:Nat))))):=by
    rw [decide_eq_true q]at c1
    refine(ax (ρ':=ldE L s1 s2 s3 a (.va (.int (k:Nat)))) ((cG c1).trans rfl)).trans ?_
    exact bN (t:=en L[k].2.1) (aw (t:=eB L[k]) (u:=.int 1) (at_eL rfl rfl e) rfl rfl) rfl
   show match run L L[k].2.1 ks with
    | some c=> ∃s5',aP (gN 5) ldF (.int (k:Nat)::eN ks) _=_
    | none=>aP (gN 5) ldF (.int (k:Nat)::eN ks) _=_
   rw [cy (ρ1:=ldE L s1 s2 s3 a (.va (.int (k:Nat)))) rfl st]
   exact ih
  ·rw [if_neg q]
   rw [decide_eq_false q]at c1
   exact k_loopr (ρ1:=ldE L s1 s2 s3 a (.va (.int (k:Nat)))) rfl (cx ((ck c1).trans rfl))
theorem e_leads {L:br N2}{a b:N2}{t:T}(h:t.pl=true)(hl:∀ l,t= .lst l->l.length<=1000):(gf L.length t=false/\m_leads [eL L,en a,en b,t] = .ok (.bl false)) ∨
  ∃ks,t= .lst (eN ks)/\(∀k∈ks,k<L.length)/\m_leads [eL L,en a,en b,t] = .ok (.bl (decide (run L a ks=some b))):=by
 cases q:gf L.length t with
 | false=>
  refine .inl ⟨rfl,aY rfl ?_⟩
  show gJ [.va (eL L),.va (en a),.va (en b),.va t,.em,.em] =_
  unfold gJ
  exact cx ((ck (c8 (k:=false) (a8 (aL (ts:=[eL L,t]) rfl (by rw [e_numbers L t h hl,q]))))).trans rfl)
 | true=>
  obtain⟨ks,rfl,hk⟩:=nums_ks q
  refine .inr ⟨ks,rfl,hk,aY rfl ?_⟩
  show gJ [.va (eL L),.va (en a),.va (en b),.va (.lst (eN ks)),.em,.em] =_
  unfold gJ
  rw [ax (ρ':=[.va (eL L),.va (en a),.va (en b),.va (.lst (eN ks)),.em,.em]) ((cG (c8 (k:=true) (a8 (aL (ts:=[eL L,.lst (eN ks)]) rfl (by rw [e_numbers L _ h hl,q]))))).trans rfl)]
  rw [ax (ρ':=ldE L (.va (en a)) (.va (en b)) (.va (.lst (eN ks))) a .em) (bN (t:=en a) rfl rfl)]
  have lo:=ld_loop L (.va (en a)) (.va (en b)) (.va (.lst (eN ks))) ks a .em hk
  cases r:run L a ks with
  | none=>
   rw [r]at lo
   rw [cx (cT (ts:=eN ks) (k_iSl rfl) lo)];rfl
  | some c=>
   rw [r]at lo
   obtain⟨s5,lo⟩:=lo
   rw [ax (cT (ts:=eN ks) (k_iSl rfl) lo)]
   refine bB ((aw (t:=en c) (u:=en b) rfl rfl (eq_en c b)).trans ?_)
   simp
theorem numsT_map (f:Nat->Int):∀ ks:List Nat,numsT (ks.map fun k=>T.int (f k))=some (ks.map f)
 | [] =>rfl
 | k::ks=>by rw [List.map_cons,numsT,numsT_map f ks];rfl
theorem cost_sum (L:br N2):∀ ks:List Nat,(ks.map (most L)).sum=cu L ks
 | [] =>rfl
 | k::ks=>by rw [List.map_cons,List.sum_cons,cost_sum L ks];rfl
theorem e_sum {L:br N2}{ks:List Nat}(hk:∀ k∈ks,k<L.length)(hl:ks.length<=1000):m_sum_of [eL L,.lst (eN ks)] = .ok (.int (cu L ks)):=by
 refine aY rfl ?_
 show F_sum_of [.va (eL L),.va (.lst (eN ks))] =_
 unfold F_sum_of
 have e:fw (iS (vr 1)) [none,some 0] (gN 0) bT (o2 aO (o2 aO (vr 1) (vr 0)) (cn (.int 2))) [.va (eL L),.va (.lst (eN ks))] = .ok (.lst ((eN ks).map fun t=>match t with | .int i=> .int (most L i.toNat) | _=> .non)):=
  k_lc (ts:=eN ks) (k_iSl rfl) (au (by unfold eN;rw [List.length_map];exact hl) (by omega)) (by simp) fun t ht=>by
   obtain⟨k,h,rfl⟩:=List.mem_map.mp ht
   have h:=hk k h
   have e:L[k]? =some L[k]:=List.getElem?_eq_getElem h
   refine(aw (t:=eB L[k]) (u:=.int 2) (at_eL rfl rfl e) rfl rfl).trans ?_
   show Rs.ok (T.int L[k].2.2)= .ok (.int (most L (k:Int).toNat))
   rw [Int.toNat_natCast,most,e]
 refine bB (aL (al e rfl) ?_)
 have:((eN ks).map fun t=>match t with | .int i=>T.int (most L i.toNat) | _=> .non)=ks.map fun k=>T.int (most L k):=by
  unfold eN
  rw [List.map_map]
  exact List.map_congr_left fun k _=>by show T.int (most L (k:Int).toNat)=_;rw [Int.toNat_natCast]
 rw [this]
 show(match numsT (ks.map fun k=>T.int (most L k))with | some ns=>Rs.ok (T.int ns.sum) | none=> .bad)=_
 rw [numsT_map]
 show Rs.ok (T.int (ks.map (most L)).sum)=_
 rw [cost_sum]
def ksOf (t:T):List Nat:=match t with
 | .lst l=>l.map fun u=>match u with | .int i=>i.toNat | _=>0
 | _=> []
theorem gF (ks:List Nat):ksOf (.lst (eN ks))=ks:=by
 show(eN ks).map _=ks
 unfold eN
 rw [List.map_map]
 have:∀ l:List Nat,l.map ((fun u=>match u with | T.int i=>i.toNat | _=>0)∘fun k:Nat=>T.int (k:Nat))=l:=by
  intro l
  induction l with
  | nil=>rfl
  | cons a l ih=>rw [List.map_cons,ih];rfl
 exact this ks
section
variable {cs ls:List T}{L:br N2}{P:List N2}
theorem Rd.bounds (R:Rd cs ls L P):di [.tup [.tup cs,.tup ls]] = .ok (eL L):=by rw [e_bounds R.g,R.b];rfl
end
theorem len_eL (L:br N2){f:En->Rs T}{ρ:En}(h:f ρ= .ok (eL L)):cl bV (ac f ah) ρ= .ok (.int (L.length:Nat)):=aL (ts:=[eL L]) (al h rfl) (by show Rs.ok (T.int ((L.map eB).length:Nat))=_;rw [List.length_map])
section
variable {cs ls:List T}{L:br N2}{P:List N2}
theorem Rd.events (R:Rd cs ls L P):fM [.tup [.tup cs,.tup ls]] = .ok (eS P):=by rw [p_events R.g,R.e];rfl
theorem dix_at {ns:List N2}{b:b7 N2}(D:DR P ns b){v:N2}{x:Int×List Nat}(e:b v=some x):bh (.dct (ns.map en) (dV ns b)) (en v)= .ok (eW x):=by
 unfold bh
 simp only [a7]
 rw [D.get,e];rfl
theorem Rd.hasw (R:Rd cs ls L P):∃ hw:Bool,dA [.tup [.tup cs,.tup ls]] = .ok (.bl hw)/\(hw=true↔NoNeg L):=by
 obtain⟨r,hr,ok⟩:=e_settle R.f R.nd (fun v h=>h)
 have wrap:∀ {w:T},cY [.tup [.tup cs,.tup ls],eL L] = .ok w->dA [.tup [.tup cs,.tup ls]] = .ok (.bl (!w.isN)):=fun {w} e=>by
  have e2:m_world [.tup [.tup cs,.tup ls]] = .ok w:=by
   refine aY rfl (bB (aL (ts:=[.tup [.tup cs,.tup ls],eL L]) (al rfl (al (aL (ts:=[.tup [.tup cs,.tup ls]]) rfl R.bounds) rfl)) e))
  refine aY rfl (bB (aw (t:=w) (u:=.non) (aL (ts:=[.tup [.tup cs,.tup ls]]) rfl e2) rfl ?_))
  cases w <;> rfl
 have begin_:∀ {x:T} {y:Rs Fl},dg [eL L,eS P] = .ok (.tup [x,.non])\/(∃q,dg [eL L,eS P] = .ok (.tup [x,.lst q]))->((az (fo (tb (o2 gg (vr 3) (cn .non))) (aM (cn .non)) sN) (aM (cl gu (ac (fw (iS (vr 2)) [none,some 3] (gN 0) bT (o2 aO (o2 bh (vr 1) (vr 0)) (cn (.int 0)))) ah)))) [.va (.tup [.tup cs,.tup ls]),.va (eL L),.va (eS P),.va x] =y) →
   cm [.va (.tup [.tup cs,.tup ls]),.va (eL L),.em,.em] =y:=fun {x y} hs hy=>by
  unfold cm
  rw [ax (ρ':=[.va (.tup [.tup cs,.tup ls]),.va (eL L),.va (eS P),.em]) (bN (aL (ts:=[.tup [.tup cs,.tup ls]]) rfl R.events) rfl)]
  have:o2 aO (cl dg (ac (vr 1) (ac (vr 2) ah))) (cn (.int 0)) [.va (.tup [.tup cs,.tup ls]),.va (eL L),.va (eS P),.em] = .ok x:=by
   rcases hs with e | ⟨q,e⟩
   ·exact aw (u:=.int 0) (aL (ts:=[eL L,eS P]) rfl e) rfl rfl
   ·exact aw (u:=.int 0) (aL (ts:=[eL L,eS P]) rfl e) rfl rfl
  rw [ax (ρ':=[.va (.tup [.tup cs,.tup ls]),.va (eL L),.va (eS P),.va x]) (bN this rfl)]
  exact hy
 cases r with
 | inr q=>
  refine⟨false,wrap (w:=.non) (aY rfl (begin_ (x:=.non) (.inr ⟨_,hr⟩) (cx ((ck (a8 (aw (t:=.non) (u:=.non) rfl rfl rfl))).trans rfl)))),fun z=>(by cases z),fun n=>absurd n (Bar.neg ok)⟩
 | inl b=>
  obtain⟨ns,D,hr⟩:=hr
  have ok:Settled L P b:=ok
  have all:∀ v∈P,∃d w,b v=some (d,w):=fun v hv=>by
   obtain⟨d,w,e,_⟩:=ok.least v hv v 0 (.nil v)
   exact⟨d,w,e⟩
  let tm:N2->Int:=fun v=>match b v with | some x=>x.1 | none=>0
  have htm:∀ v∈P,∃w,b v=some (tm v,w):=fun v hv=>by
   obtain⟨d,w,e⟩:=all v hv
   refine⟨w,?_⟩
   show b v=some ((match b v with | some x=>x.1 | none=>0),w)
   rw [e]
  have lc:fw (iS (vr 2)) [none,some 3] (gN 0) bT (o2 aO (o2 bh (vr 1) (vr 0)) (cn (.int 0))) [.va (.tup [.tup cs,.tup ls]),.va (eL L),.va (eS P),.va (.dct (ns.map en) (dV ns b))] = .ok (.lst ((P.map en).map fun t=>match t with | .tup [.int c,.int k] => .int (tm ⟨c,k⟩) | _=> .non)):=
   k_lc (ts:=P.map en) (k_iSl rfl) (au (k:=16) (by rw [List.length_map];exact R.pl)) (by simp) fun t ht=>by
    obtain⟨v,hv,rfl⟩:=List.mem_map.mp ht
    obtain⟨w,e⟩:=htm v hv
    exact aw (t:=eW (tm v,w)) (u:=.int 0) (aw (t:=.dct (ns.map en) (dV ns b)) (u:=en v) rfl rfl (dix_at D e)) rfl rfl
  refine⟨true,wrap (w:=.tup ((P.map en).map fun t=>match t with | .tup [.int c,.int k] => .int (tm ⟨c,k⟩) | _=> .non)) (aY rfl (begin_ (.inl hr) ?_)),fun _=>(ok.holds R.f.ends htm).noNeg,fun _=>rfl⟩
  rw [ax (ρ':=[.va (.tup [.tup cs,.tup ls]),.va (eL L),.va (eS P),.va (.dct (ns.map en) (dV ns b))]) ((cG (a8 (aw (t:=.dct (ns.map en) (dV ns b)) (u:=.non) rfl rfl rfl))).trans rfl)]
  exact bB (aL (al lc rfl) rfl)
end
def oI (o:Option Int):T:=match o with
 | some x=> .int x
 | none=> .non
def eY (P:List N2)(f:dY N2):List (List T×List T):=P.map fun u=>(P.map en,P.map fun v=>oI (f u v))
def tabT (P:List N2)(f:dY N2):T:=.dct (P.map en) (P.map fun u=> .dct (P.map en) (P.map fun v=>oI (f u v)))
abbrev gv (P:List N2)(L:br N2)(f:dY N2)(s3 s4 s5 s6 s7:Sl):En:=[.va (eS P),.va (eL L),.ow (.dd (P.map en) (eY P f)),s3,s4,s5,s6,s7]
abbrev tbV (P:List N2)(L:br N2)(f:dY N2)(s3 s4 s5 s6 s7:Sl):En:=[.va (eS P),.va (eL L),.va (tabT P f),s3,s4,s5,s6,s7]
section
variable {P:List N2}{L:br N2}{f:dY N2}
theorem dis_tb (s3 s4 s5 s6 s7:Sl):disown 2 (gv P L f s3 s4 s5 s6 s7)=tbV P L f s3 s4 s5 s6 s7:=by
 show [Sl.va (eS P),.va (eL L),.va (OT.view (.dd (P.map en) (eY P f))),s3,s4,s5,s6,s7] =_
 have e:OT.view (.dd (P.map en) (eY P f))=tabT P f:=by
  show T.dct (P.map en) ((eY P f).map fun r=>T.dct r.1 r.2)=_
  unfold eY tabT
  rw [List.map_map]
  rfl
 rw [e]
theorem tab_at {u v:N2}{a b c:En->Rs T}{ρ:En}(hc:c ρ= .ok (tabT P f))(ha:a ρ= .ok (en u))(hb:b ρ= .ok (en v))(hu:u∈P)(hv:v∈P):o2 bh (o2 bh c a) b ρ= .ok (oI (f u v)):=by
 refine aw (t:=.dct (P.map en) (P.map fun w=>oI (f u w))) (u:=en v) (aw (t:=tabT P f) (u:=en u) hc ha ?_) hb ?_
 ·show(match dget (P.map en) (P.map fun u=>T.dct (P.map en) (P.map fun v=>oI (f u v))) (ky u)with | some t=>Rs.ok t | none=> .bad)=_
  rw [dget_ns (fun u=>T.dct (P.map en) (P.map fun v=>oI (f u v))),if_pos hu]
 ·show(match dget (P.map en) (P.map fun w=>oI (f u w)) (ky v)with | some t=>Rs.ok t | none=> .bad)=_
  rw [dget_ns (fun w=>oI (f u w)),if_pos hv]
theorem ln_at {u v:N2}{a b:En->Rs T}{s3 s4 s5 s6 s7:Sl}(ha:a (tbV P L f s3 s4 s5 s6 s7)= .ok (en u))(hb:b (tbV P L f s3 s4 s5 s6 s7)= .ok (en v))(hu:u∈P)(hv:v∈P):ln 2 (o2 bh (o2 bh (vr 2) a) b) (gv P L f s3 s4 s5 s6 s7)= .ok (oI (f u v)):=
 k_ln (o:=.dd (P.map en) (eY P f)) rfl (by rw [dis_tb];exact tab_at rfl ha hb hu hv) (by cases f u v <;> rfl)
theorem rget_P (g:N2->List T×List T)(u:N2):∀ (Q:List N2),u∈Q->rget (Q.map en) (Q.map g) (ky u)=some (g u)
 | w::Q,h=>by
  rw [List.map_cons,List.map_cons,rget,a7]
  by_cases e:w=u
  ·subst e;rw [if_pos rfl]
  ·rw [if_neg (fun z=>e (gE z)),rget_P g u Q ((List.mem_cons.mp h).elim (fun z=>absurd z.symm e) id)]
theorem rput_P (g:N2->List T×List T)(u:N2)(x:List T×List T):∀ (Q:List N2),Q.Nodup->rput (ky u) x (Q.map en) (Q.map g)=Q.map fun w=>if w=u then x else g w
 | [],_=>rfl
 | w::Q,h=>by
  rw [List.nodup_cons]at h
  rw [List.map_cons,List.map_cons,rput,a7,List.map_cons]
  by_cases e:w=u
  ·subst e
   rw [if_pos rfl,if_pos rfl]
   congr 1
   exact List.map_congr_left fun z hz=>by rw [if_neg (fun(y:z=w)=>h.1 (y▸hz))]
  ·rw [if_neg (fun z=>e (gE z)),if_neg e,rput_P g u x Q h.2]
theorem put_tb (nd:P.Nodup)(pl:P.length<1000){u v:N2}{x:Int}{a b c:En->Rs T}{s3 s4 s5 s6 s7:Sl}(ha:a (gv P L f s3 s4 s5 s6 s7)= .ok (en u))(hb:b (gv P L f s3 s4 s5 s6 s7)= .ok (en v))(hc:c (gv P L f s3 s4 s5 s6 s7)= .ok (.int x))(hu:u∈P)(hv:v∈P) :
  sPut2 2 a b c (gv P L f s3 s4 s5 s6 s7)= .ok (.nx (gv P L (fset f u v x) s3 s4 s5 s6 s7)):=by
 unfold sPut2
 show(c (gv P L f s3 s4 s5 s6 s7) >>= fun w=>a (gv P L f s3 s4 s5 s6 s7) >>= fun z=>match(aR z).bind fun ka=>(rget (P.map en) (eY P f) ka).map fun r=>(ka,r)with
  | some (ka,r)=>b (gv P L f s3 s4 s5 s6 s7) >>= fun y=>if (aR y).isSome=true/\r.1.length<1000 then Rs.ok (Fl.nx ((gv P L f s3 s4 s5 s6 s7).set 2 (.ow (.dd (P.map en) (rput ka (fT y w r.1 r.2) (P.map en) (eY P f))))))else .bad
  | none=> .bad)=_
 rw [hc,aD,ha,aD,a7]
 have e1:rget (P.map en) (eY P f) (ky u)=some (P.map en,P.map fun v=>oI (f u v)):=rget_P (fun u=>(P.map en,P.map fun v=>oI (f u v))) u P hu
 simp only [Option.bind_some,e1,Option.map_some]
 rw [hb,aD,a7,if_pos ⟨rfl,by rw [List.length_map];exact pl⟩,dput_in (.int x) v (fun v=>oI (f u v)) P nd hv]
 have e2:=rput_P (fun u=>(P.map en,P.map fun v=>oI (f u v))) u (P.map en,P.map fun w=>if w=v then T.int x else oI (f u w)) P nd
 have e3:(P.map fun w=>if w=u then(P.map en,P.map fun w=>if w=v then T.int x else oI (f u w))else(P.map en,P.map fun v=>oI (f w v)))=eY P (fset f u v x):=by
  unfold eY fset
  refine List.map_congr_left fun w _=> ?_
  by_cases e:w=u
  ·subst e
   rw [if_pos rfl]
   congr 1
   refine List.map_congr_left fun z _=> ?_
   by_cases h:z=v
   ·rw [if_pos h,if_pos ⟨rfl,h⟩];rfl
   ·rw [if_neg h,if_neg (fun q=>h q.2)]
  ·rw [if_neg e]
   congr 1
   exact List.map_congr_left fun z _=>by rw [if_neg (fun q=>e q.1)]
 show Rs.ok (Fl.nx [.va (eS P),.va (eL L),.ow (.dd (P.map en) (rput (ky u) (P.map en,P.map fun w=>if w=v then T.int x else oI (f u w)) (P.map en) (eY P f))),s3,s4,s5,s6,s7])=_
 rw [show rput (ky u) (P.map en,P.map fun w=>if w=v then T.int x else oI (f u w)) (P.map en) (eY P f)=eY P (fset f u v x)from e2.trans e3]
theorem imp_tb (nd:P.Nodup)(pl:P.length<1000){u v:N2}{x:Int}{a b c:En->Rs T}{s3 s4 s5 s6 s7:Sl}(ha:a (gv P L f s3 s4 s5 s6 s7)= .ok (en u))(hb:b (gv P L f s3 s4 s5 s6 s7)= .ok (en v))(ha':a (tbV P L f s3 s4 s5 s6 s7)= .ok (en u))(hb':b (tbV P L f s3 s4 s5 s6 s7)= .ok (en v))(hc:c (gv P L f s3 s4 s5 s6 s7)= .ok (.int x))(hu:u∈P)(hv:v∈P) :
  fo (orB (tb (o2 gg (ln 2 (o2 bh (o2 bh (vr 2) a) b)) (cn .non))) (tb (o2 ltT c (ln 2 (o2 bh (o2 bh (vr 2) a) b))))) (sPut2 2 a b c) sN (gv P L f s3 s4 s5 s6 s7)= .ok (.nx (gv P L (fimp f u v x) s3 s4 s5 s6 s7)):=by
 have g:=ln_at (P:=P) (L:=L) (f:=f) ha' hb' hu hv
 have p:=put_tb (P:=P) (L:=L) (f:=f) nd pl ha hb hc hu hv
 unfold fimp
 cases q:f u v with
 | none=>
  rw [q]at g
  exact(ck (k_or1 (a8 (aw (t:=.non) (u:=.non) g rfl rfl)))).trans p
 | some y=>
  rw [q]at g
  have c2:tb (o2 ltT c (ln 2 (o2 bh (o2 bh (vr 2) a) b))) (gv P L f s3 s4 s5 s6 s7)= .ok (decide (x<y)):=a8 (aw (t:=.int x) (u:=.int y) hc g rfl)
  by_cases h:x<y
  ·rw [decide_eq_true h]at c2
   simp only [if_pos h]
   exact(ck (k_or0 (a8 (aw (t:=.int y) (u:=.non) g rfl rfl)) c2)).trans p
  ·rw [decide_eq_false h]at c2
   simp only [if_neg h]
   exact(cG (k_or0 (a8 (aw (t:=.int y) (u:=.non) g rfl rfl)) c2)).trans rfl
end
section
variable {P:List N2}{L:br N2}
theorem keys_en2:∀ (P:List N2),keys? (P.map en)=true
 | [] =>rfl
 | u::P=>by
  have:=keys_en2 P
  simp [keys?,a7,this]
theorem key_nd (nd:P.Nodup):((P.map en).map aR).Nodup:=by
 rw [List.map_map]
 exact nd.map _ fun a b h e=>h (gE e)
theorem tb_new (nd:P.Nodup)(pl:P.length<=1000):sNewDD 2 0 [.va (eS P),.va (eL L),.em,.em,.em,.em,.em,.em] = .ok (.nx (gv P L (fun _ _=>none) .em .em .em .em .em)):=by
 show(if (2:Nat)<8/\keys? (P.map en)=true/\((P.map en).map aR).Nodup/\(P.map en).length<=1000 then Rs.ok (Fl.nx [.va (eS P),.va (eL L),.ow (.dd (P.map en) ((P.map en).map fun _=>(P.map en,(P.map en).map fun _=>T.non))),.em,.em,.em,.em,.em])else .bad)=_
 rw [if_pos ⟨by omega,keys_en2 P,key_nd nd,by rw [List.length_map];exact pl⟩,List.map_map,List.map_map]
 rfl
theorem tb_l1 (nd:P.Nodup)(pl:P.length<1000):∀ (Q:List N2) (f:dY N2) (s3 s4 s5 s6 s7:Sl),(∀u∈Q,u∈P)->∃ s3',
  aP (gN 3) (sPut2 2 (vr 3) (vr 3) (cn (.int 0))) (Q.map en) (gv P L f s3 s4 s5 s6 s7)= .ok (.nx (gv P L (Q.foldl (fun f u=>fset f u u 0) f) s3' s4 s5 s6 s7))
 | [],f,s3,s4,s5,s6,s7,_=>⟨s3,rfl⟩
 | u::Q,f,s3,s4,s5,s6,s7,h=>by
  have hu:=h u List.mem_cons_self
  rw [List.map_cons,cy (ρ1:=gv P L f (.va (en u)) s4 s5 s6 s7) rfl (put_tb nd pl (u:=u) (v:=u) (x:=0) rfl rfl rfl hu hu)]
  exact tb_l1 nd pl Q _ _ _ _ _ _ fun w hw=>h w (List.mem_cons_of_mem _ hw)
theorem fold_diag:∀ (Q:List N2) (f:dY N2) (u v:N2),Q.foldl (fun f u=>fset f u u 0) f u v=if u∈Q/\u=v then some 0 else f u v
 | [],f,u,v=>by rw [if_neg (fun h=>nomatch h.1)];rfl
 | w::Q,f,u,v=>by
  rw [List.foldl_cons,fold_diag Q]
  by_cases e:u=v
  ·subst e
   by_cases m:u∈Q
   ·rw [if_pos ⟨m,rfl⟩,if_pos ⟨List.mem_cons_of_mem _ m,rfl⟩]
   ·rw [if_neg (fun z=>m z.1)]
    unfold fset
    by_cases q:u=w
    ·subst q;rw [if_pos ⟨rfl,rfl⟩,if_pos ⟨List.mem_cons_self,rfl⟩]
    ·rw [if_neg (fun z=>q z.1),if_neg (fun z=>(List.mem_cons.mp z.1).elim q m)]
  ·rw [if_neg (fun z=>e z.2),if_neg (fun z=>e z.2)]
   unfold fset
   rw [if_neg (fun z=>e (z.1.trans z.2.symm))]
theorem fold_tab0 (P:List N2):P.foldl (fun f u=>fset f u u 0) (fun _ _=>none)=tab0 P:=by
 funext u v
 rw [fold_diag]
 rfl
theorem tb_l2 (nd:P.Nodup)(pl:P.length<1000):∀ (M:br N2) (f:dY N2) (s3 s4 s5 s6 s7:Sl),(∀x∈M,x.1∈P/\x.2.1∈P)->∃ s3' s4' s5',
  aP (gT 3 (eR (gN 3) (eR (gN 4) (eR (gN 5) gsN)))) (fo (orB (tb (o2 gg (ln 2 (o2 bh (o2 bh (vr 2) (vr 3)) (vr 4))) (cn .non))) (tb (o2 ltT (vr 5) (ln 2 (o2 bh (o2 bh (vr 2) (vr 3)) (vr 4)))))) (sPut2 2 (vr 3) (vr 4) (vr 5)) sN) (M.map eB) (gv P L f s3 s4 s5 s6 s7)= .ok (.nx (gv P L (M.foldl (fun f x=>fimp f x.1 x.2.1 x.2.2) f) s3' s4' s5' s6 s7))
 | [],f,s3,s4,s5,s6,s7,_=>⟨s3,s4,s5,rfl⟩
 | x::M,f,s3,s4,s5,s6,s7,h=>by
  have hx:=h x List.mem_cons_self
  rw [List.map_cons,cy (ρ1:=gv P L f (.va (en x.1)) (.va (en x.2.1)) (.va (.int x.2.2)) s6 s7) rfl (imp_tb nd pl (u:=x.1) (v:=x.2.1) (x:=x.2.2) rfl rfl rfl rfl rfl hx.1 hx.2)]
  exact tb_l2 nd pl M _ _ _ _ _ _ fun w hw=>h w (List.mem_cons_of_mem _ hw)
abbrev tbS:En->Rs Fl:=(fo (andB (tb (o2 cM (ln 2 (o2 bh (o2 bh (vr 2) (vr 3)) (vr 6))) (cn .non))) (tb (o2 cM (ln 2 (o2 bh (o2 bh (vr 2) (vr 6)) (vr 4))) (cn .non)))) (az (b8 (o2 aI (ln 2 (o2 bh (o2 bh (vr 2) (vr 3)) (vr 6))) (ln 2 (o2 bh (o2 bh (vr 2) (vr 6)) (vr 4)))) (gN 7)) (fo (orB (tb (o2 gg (ln 2 (o2 bh (o2 bh (vr 2) (vr 3)) (vr 4))) (cn .non))) (tb (o2 ltT (vr 7) (ln 2 (o2 bh (o2 bh (vr 2) (vr 3)) (vr 4)))))) (sPut2 2 (vr 3) (vr 4) (vr 7)) sN)) sN)
theorem tb_step (nd:P.Nodup)(pl:P.length<1000){mid one other:N2}(hm:mid∈P)(h1:one∈P)(h2:other∈P)(f:dY N2)(s5 s7:Sl):∃ s7',
  tbS (gv P L f (.va (en one)) (.va (en other)) s5 (.va (en mid)) s7)= .ok (.nx (gv P L (fstep mid one other f) (.va (en one)) (.va (en other)) s5 (.va (en mid)) s7')):=by
 have ga:∀ s7,ln 2 (o2 bh (o2 bh (vr 2) (vr 3)) (vr 6)) (gv P L f (.va (en one)) (.va (en other)) s5 (.va (en mid)) s7)= .ok (oI (f one mid)):=fun s7=>ln_at rfl rfl h1 hm
 have gb:∀ s7,ln 2 (o2 bh (o2 bh (vr 2) (vr 6)) (vr 4)) (gv P L f (.va (en one)) (.va (en other)) s5 (.va (en mid)) s7)= .ok (oI (f mid other)):=fun s7=>ln_at rfl rfl hm h2
 unfold fstep tbS
 cases qa:f one mid with
 | none=>
  have ga:=ga s7
  rw [qa]at ga
  exact⟨s7,(cG (k_and0 (a8 (aw (t:=.non) (u:=.non) ga rfl rfl)))).trans rfl⟩
 | some x=>
  have ga:=ga s7
  rw [qa]at ga
  have c1:=a8 (aw (g:=cM) (t:=.int x) (u:=.non) (fb:=cn .non) ga rfl rfl)
  cases qb:f mid other with
  | none=>
   have gb:=gb s7
   rw [qb]at gb
   exact⟨s7,(cG (k_and1 c1 (a8 (aw (t:=.non) (u:=.non) gb rfl rfl)))).trans rfl⟩
  | some y=>
   have gb:=gb s7
   rw [qb]at gb
   refine⟨.va (.int (x+y)),(ck (k_and1 c1 (a8 (aw (t:=.int y) (u:=.non) gb rfl rfl)))).trans ?_⟩
   rw [ax (bN (ρ':=gv P L f (.va (en one)) (.va (en other)) s5 (.va (en mid)) (.va (.int (x+y)))) (aw (t:=.int x) (u:=.int y) ga gb rfl) rfl)]
   exact imp_tb nd pl (u:=one) (v:=other) (x:=x+y) rfl rfl rfl rfl rfl h1 h2
theorem tb_l3 (nd:P.Nodup)(pl:P.length<1000){mid one:N2}(hm:mid∈P)(h1:one∈P):∀ (Q:List N2) (f:dY N2) (s4 s5 s7:Sl),(∀u∈Q,u∈P)->∃ s4' s7',
  aP (gN 4) tbS (Q.map en) (gv P L f (.va (en one)) s4 s5 (.va (en mid)) s7)= .ok (.nx (gv P L (fothers mid one Q f) (.va (en one)) s4' s5 (.va (en mid)) s7'))
 | [],f,s4,s5,s7,_=>⟨s4,s7,rfl⟩
 | u::Q,f,s4,s5,s7,h=>by
  have hu:=h u List.mem_cons_self
  obtain⟨s7',e⟩:=tb_step (L:=L) nd pl hm h1 hu f s5 s7
  rw [List.map_cons,cy (ρ1:=gv P L f (.va (en one)) (.va (en u)) s5 (.va (en mid)) s7) rfl e]
  exact tb_l3 nd pl hm h1 Q _ _ _ _ fun w hw=>h w (List.mem_cons_of_mem _ hw)
theorem tb_l4 (nd:P.Nodup)(pl:P.length<1000){mid:N2}(hm:mid∈P):∀ (Q:List N2) (f:dY N2) (s3 s4 s5 s7:Sl),(∀u∈Q,u∈P)->∃ s3' s4' s7',
  aP (gN 3) (dy (iS (vr 0)) (gN 4) tbS) (Q.map en) (gv P L f s3 s4 s5 (.va (en mid)) s7)= .ok (.nx (gv P L (fones mid Q P f) s3' s4' s5 (.va (en mid)) s7'))
 | [],f,s3,s4,s5,s7,_=>⟨s3,s4,s7,rfl⟩
 | u::Q,f,s3,s4,s5,s7,h=>by
  have hu:=h u List.mem_cons_self
  obtain⟨s4',s7',e⟩:=tb_l3 (L:=L) nd pl hm hu P f s4 s5 s7 fun _ z=>z
  rw [List.map_cons,cy (ρ1:=gv P L f (.va (en u)) s4 s5 (.va (en mid)) s7) rfl (cT (ts:=P.map en) rfl e)]
  exact tb_l4 nd pl hm Q _ _ _ _ _ fun w hw=>h w (List.mem_cons_of_mem _ hw)
theorem tb_l5 (nd:P.Nodup)(pl:P.length<1000):∀ (Q:List N2) (f:dY N2) (s3 s4 s5 s6 s7:Sl),(∀u∈Q,u∈P)->∃ s3' s4' s6' s7',
  aP (gN 6) (dy (iS (vr 0)) (gN 3) (dy (iS (vr 0)) (gN 4) tbS)) (Q.map en) (gv P L f s3 s4 s5 s6 s7)= .ok (.nx (gv P L (fmids Q P f) s3' s4' s5 s6' s7'))
 | [],f,s3,s4,s5,s6,s7,_=>⟨s3,s4,s6,s7,rfl⟩
 | u::Q,f,s3,s4,s5,s6,s7,h=>by
  have hu:=h u List.mem_cons_self
  obtain⟨s3',s4',s7',e⟩:=tb_l4 (L:=L) nd pl hu P f s3 s4 s5 s7 fun _ z=>z
  rw [List.map_cons,cy (ρ1:=gv P L f s3 s4 s5 (.va (en u)) s7) rfl (cT (ts:=P.map en) rfl e)]
  exact tb_l5 nd pl Q _ _ _ _ _ _ fun w hw=>h w (List.mem_cons_of_mem _ hw)
def Diag (P:List N2)(f:dY N2):Prop:=∀ u∈P,∀y,f u u=some y->0<=y
theorem tb_end (hd:∀ u∈P,∃y,table P L u u=some y)(pl:P.length<1000)(s3 s4 s5 s6 s7:Sl) :
  ∃t,((Diag P (table P L)/\t=tabT P (table P L))\/(¬Diag P (table P L)/\t= .non))/\sDis 2 (aM (ifE (tb (o2 eqT (fw (iS (vr 0)) [none,some 2] (gN 0) (tb (o2 ltT (o2 bh (o2 bh (vr 1) (vr 0)) (vr 0)) (cn (.int 0)))) (vr 0)) (bY ah))) (vr 2) (cn .non))) (gv P L (table P L) s3 s4 s5 s6 s7)= .ok (.rt t):=by
 generalize hf:table P L=f
 rw [hf]at hd
 have lc:fw (iS (vr 0)) [none,some 2] (gN 0) (tb (o2 ltT (o2 bh (o2 bh (vr 1) (vr 0)) (vr 0)) (cn (.int 0)))) (vr 0) (tbV P L f s3 s4 s5 s6 s7)= .ok (.lst (((P.map en).filter fun t=>P.any fun u=>decide (aR t=some (ky u))&&(match f u u with | some y=>decide (y<0) | none=>false)).map id)):=by
  refine k_lcf (ts:=P.map en) rfl (au (k:=1000) (by rw [List.length_map];omega)) (by simp) fun t ht=> ?_
  obtain⟨u,hu,rfl⟩:=List.mem_map.mp ht
  obtain⟨y,hy⟩:=hd u hu
  refine⟨?_,fun _=>rfl⟩
  have e:(P.any fun w=>decide (aR (en u)=some (ky w))&&(match f w w with | some y=>decide (y<0) | none=>false))=decide (y<0):=by
   by_cases h:y<0
   ·rw [decide_eq_true h]
    exact List.any_eq_true.mpr ⟨u,hu,by rw [hy];simp [h,a7]⟩
   ·rw [decide_eq_false h,List.any_eq_false]
    intro w hw
    by_cases q:w=u
    ·subst q;rw [hy];simp [h]
    ·rw [decide_eq_false (fun z=>q (gE ((a7 u).symm.trans z)).symm)];simp
  rw [e]
  have g:=tab_at (P:=P) (f:=f) (u:=u) (v:=u) (ρ:=[.va (en u),.va (tabT P f)]) (c:=vr 1) (a:=vr 0) (b:=vr 0) rfl rfl rfl hu hu
  rw [hy]at g
  exact a8 (aw (t:=.int y) (u:=.int 0) g rfl rfl)
 rw [List.map_id]at lc
 generalize hp:(fun t=>P.any fun u=>decide (aR t=some (ky u))&&(match f u u with | some y=>decide (y<0) | none=>false))=p at lc
 have pu:∀ u∈P,∀y,f u u=some y->p (en u)=decide (y<0):=by
  intro u hu y hy
  rw [<-hp]
  show(P.any fun w=>decide (aR (en u)=some (ky w))&&(match f w w with | some y=>decide (y<0) | none=>false))=decide (y<0)
  by_cases h:y<0
  ·rw [decide_eq_true h]
   exact List.any_eq_true.mpr ⟨u,hu,by rw [hy];simp [h,a7]⟩
  ·rw [decide_eq_false h,List.any_eq_false]
   intro w hw
   by_cases q:w=u
   ·subst q;rw [hy];simp [h]
   ·rw [decide_eq_false (fun z=>q (gE ((a7 u).symm.trans z)).symm)];simp
 have iff:(P.map en).filter p= [] ↔Diag P f:=by
  rw [List.filter_eq_nil_iff]
  constructor
  ·intro h u hu y hy
   have:=h (en u) (List.mem_map.mpr ⟨u,hu,rfl⟩)
   rw [pu u hu y hy]at this
   simpa using this
  ·intro h t ht
   obtain⟨u,hu,rfl⟩:=List.mem_map.mp ht
   obtain⟨y,hy⟩:=hd u hu
   rw [pu u hu y hy]
   have:=h u hu y hy
   simpa using this
 have nd:nds ((P.map en).filter p)=true:=nds_of fun t ht=>by
  obtain⟨u,_,rfl⟩:=List.mem_map.mp (List.mem_filter.mp ht).1
  rfl
 have eq:o2 eqT (fw (iS (vr 0)) [none,some 2] (gN 0) (tb (o2 ltT (o2 bh (o2 bh (vr 1) (vr 0)) (vr 0)) (cn (.int 0)))) (vr 0)) (bY ah) (tbV P L f s3 s4 s5 s6 s7)= .ok (.bl (aW (.lst ((P.map en).filter p)) (.lst []))):=
  aw (u:=.lst []) lc (eE rfl (au (k:=1) (by simp))) (by unfold eqT;rw [if_pos (flat60_r (by simp [T.dep,deps]) (by simpa [T.nd]using nd) rfl)])
 by_cases D:Diag P f
 ·refine⟨tabT P f,.inl ⟨D,rfl⟩,?_⟩
  rw [iff.mpr D]at eq
  refine k_dis ?_
  rw [dis_tb]
  exact bB ((k_ife (p:=true) (a8 eq)).trans rfl)
 ·refine⟨.non,.inr ⟨D,rfl⟩,?_⟩
  have:(P.map en).filter p≠ []:=fun z=>D (iff.mp z)
  cases q:(P.map en).filter p with
  | nil=>exact absurd q this
  | cons a l=>
   rw [q]at eq
   refine k_dis ?_
   rw [dis_tb]
   exact bB ((k_ife (p:=false) (a8 (eq.trans (by simp [aW,beqTs])))).trans rfl)
theorem e_table (nd:P.Nodup)(pl:P.length<1000)(hL:∀ x∈L,x.1∈P/\x.2.1∈P) :
  ∃t,((NoNeg L/\Least L P (table P L)/\t=tabT P (table P L))\/(¬NoNeg L/\t= .non))/\fh [eS P,eL L] = .ok t:=by
 obtain⟨a3,e1⟩:=tb_l1 (L:=L) nd pl P (fun _ _=>none) .em .em .em .em .em fun _ z=>z
 rw [fold_tab0]at e1
 obtain⟨b3,b4,b5,e2⟩:=tb_l2 (L:=L) nd pl L (tab0 P) a3 .em .em .em .em hL
 obtain⟨c3,c4,c6,c7,e3⟩:=tb_l5 (L:=L) nd pl P (tab1 P L) b3 b4 b5 .em .em fun _ z=>z
 obtain⟨t,ht,e4⟩:=tb_end (P:=P) (L:=L) (fun u hu=>let ⟨y,h,_⟩:=table_diag (L:=L) hu;⟨y,h⟩) pl c3 c4 b5 c6 c7
 refine⟨t,ht.elim (fun h=> .inl ?_) (fun h=> .inr ⟨fun n=>h.1 fun u hu y hy=> ?_,h.2⟩),aY rfl ?_⟩
 ·have:=table_least hL h.1
  exact⟨this.1,this.2,h.2⟩
 ·exact Int.not_lt.mp fun z=>table_neg hy z n
 ·show dQ [.va (eS P),.va (eL L),.em,.em,.em,.em,.em,.em] =_
  unfold dQ
  rw [ax (tb_new nd (by omega)),ax (cT (ts:=P.map en) rfl e1),ax (cT (ts:=L.map eB) rfl e2)]
  exact(ax (cT (ts:=P.map en) rfl e3)).trans e4
end
def fS (L:br N2)(k:Nat):N2:=match L[k]? with
 | some x=>x.1
 | none=>⟨0,0⟩
def barK (L:br N2)(ks:List Nat):Bool:=match ks with
 | [] =>false
 | k::r=>decide (run L (fS L k) (k::r)=some (fS L k))&&decide (cu L (k::r)<0)
def barB (L:br N2)(t:T):Bool:=gf L.length t&&barK L (ksOf t)
theorem pl_eN (w:List Nat):∀ u∈eN w,u.pl=true:=fun u hu=>by obtain⟨k,_,rfl⟩:=List.mem_map.mp hu;rfl
theorem eq_nil (l:List T)(h:(T.lst l).pl=true):eqT (.lst l) (.lst [])= .ok (.bl l.isEmpty):=by
 unfold eqT
 rw [if_pos (flat60_r (by simp [T.dep,deps]) (T.pl_nd _ h) rfl)]
 cases l with
 | nil=>rfl
 | cons k r=>simp [aW,beqTs]
theorem len_eN (ks:List Nat):(eN ks).length=ks.length:=List.length_map _
section
variable {cs ls:List T}{L:br N2}{P:List N2}{ns:List Int}
theorem e_round {t:T}(h:t.pl=true)(hl:∀ l,t= .lst l->l.length<=1000):dh [eL L,t] = .ok (.bl (gf L.length t&&match ksOf t with | [] =>false | k::r=>decide (run L (fS L k) (k::r)=some (fS L k)))):=by
 refine aY rfl ?_
 show dk [.va (eL L),.va t,.em] =_
 unfold dk
 have nm:=e_numbers L t h hl
 cases q:gf L.length t with
 | false=>
  exact cx ((ck (k_or1 (c8 (k:=false) (a8 (aL (ts:=[eL L,t]) rfl (by rw [nm,q])))))).trans rfl)
 | true=>
  obtain⟨ks,rfl,hk⟩:=nums_ks q
  have c:=k_or0 (c8 (k:=true) (a8 (aL (g:=ca) (fs:=ac (vr 0) (ac (vr 1) ah)) (ρ:=[.va (eL L),.va (.lst (eN ks)),.em]) (ts:=[eL L,.lst (eN ks)]) rfl (by rw [nm,q])))) (a8 (aw (fa:=vr 1) (fb:=bY ah) (t:=.lst (eN ks)) (u:=.lst []) rfl (eE rfl (au (k:=1) (by simp))) (eq_nil _ h)))
  rw [gF]
  cases ks with
  | nil=>exact cx ((ck c).trans rfl)
  | cons k r=>
   rw [ax (ρ':=[.va (eL L),.va (.lst (eN (k::r))),.em]) ((cG c).trans rfl)]
   have hk0:=hk k List.mem_cons_self
   have e:L[k]? =some L[k]:=List.getElem?_eq_getElem hk0
   have sr:fS L k=L[k].1:=by unfold fS;rw [e]
   rw [ax (ρ':=[.va (eL L),.va (.lst (eN (k::r))),.va (en (fS L k))]) (bN (t:=en (fS L k)) (aw (t:=eB L[k]) (u:=.int 0) (at_eL rfl (k_ixl (l:=eN (k::r)) (n:=0) rfl rfl rfl) e) rfl (by rw [sr];rfl)) rfl)]
   rcases e_leads (L:=L) (a:=fS L k) (b:=fS L k) h hl with⟨z,_⟩ | ⟨ks',ek,_,e2⟩
   ·rw [q]at z;cases z
   ·have:ks'=k::r:=by have:=congrArg ksOf ek;rw [gF,gF]at this;exact this.symm
    subst this
    exact bB (aL (ts:=[eL L,en (fS L k),en (fS L k),.lst (eN (k::r))]) rfl (by rw [e2,Bool.true_and]))
theorem Rd.bars (R:Rd cs ls L P){t:T}(h:t.pl=true)(hl:∀ l,t= .lst l->l.length<=1000):m_bars [.tup [.tup cs,.tup ls],t] = .ok (.bl (barB L t)):=by
 refine aY rfl ?_
 show F_bars [.va (.tup [.tup cs,.tup ls]),.va t,.em] =_
 unfold F_bars
 rw [ax (ρ':=[.va (.tup [.tup cs,.tup ls]),.va t,.va (eL L)]) (bN (aL (ts:=[.tup [.tup cs,.tup ls]]) rfl R.bounds) rfl)]
 have rd:=aL (g:=dh) (fs:=ac (vr 2) (ac (vr 1) ah)) (ρ:=[.va (.tup [.tup cs,.tup ls]),.va t,.va (eL L)]) (ts:=[eL L,t]) rfl (e_round (L:=L) h hl)
 refine bB ?_
 unfold barB
 cases q:gf L.length t with
 | false=>rw [q]at rd;exact f8 rd
 | true=>
  obtain⟨ks,rfl,hk⟩:=nums_ks q
  rw [q,gF,Bool.true_and]at rd
  rw [gF,Bool.true_and]
  cases ks with
  | nil=>exact f8 rd
  | cons k r=>exact k_andVb rd fun _=>aw (t:=.int (cu L (k::r))) (u:=.int 0) (aL (ts:=[eL L,.lst (eN (k::r))]) rfl (e_sum hk (by have:=hl _ rfl;rwa [len_eN]at this))) rfl rfl
abbrev lbE (L:br N2)(t:T)(d:Int)(s3 s4:Sl):En:=[.va (eL L),.va t,.va (.int d),s3,s4]
abbrev lbC:En->Rs Fl:=(fo (orB (dM (tb (o1 (isT "int") (vr 4)))) (orB (tb (o1 (isT "bool") (vr 4))) (dM (tb (ch leT ltT (cn (.int 0)) (vr 4) (cl bV (ac (vr 0) ah))))))) (aM (cn (.bl false))) sN)
theorem lbC_at (t:T)(d:Int)(s3:Sl)(u:T)(h:u.pl=true):lbC (lbE L t d s3 (.va u))=if aK u 0 ((L.length:Int) - 1)then .ok (.nx (lbE L t d s3 (.va u)))else .ok (.rt (.bl false)):=by
 have no:isT "int" u= .ok (.bl false)->aK u 0 ((L.length:Int) - 1)=false->lbC (lbE L t d s3 (.va u))=if aK u 0 ((L.length:Int) - 1)then .ok (.nx (lbE L t d s3 (.va u)))else .ok (.rt (.bl false)):=fun e w=>by
  rw [w]
  exact(ck (k_or1 (c8 (k:=false) (a8 (k_o1 (t:=u) rfl e))))).trans rfl
 cases u with
 | int i=>
  have c:ch leT ltT (cn (.int 0)) (vr 4) (cl bV (ac (vr 0) ah)) (lbE L t d s3 (.va (.int i)))= .ok (.bl (aK (.int i) 0 ((L.length:Int) - 1))):=by
   unfold ch
   show(match T.bl (decide (0<=i))with
    | .bl true=>(cl bV (ac (vr 0) ah) (lbE L t d s3 (.va (.int i)))) >>= fun w=>ltT (.int i) w
    | .bl false=>Rs.ok (.bl false)
    | _=> .bad)=_
   rw [show aK (.int i) 0 ((L.length:Int) - 1)=(decide (0<=i)&&decide (i<=(L.length:Int) - 1))from rfl]
   by_cases h0:0<=i
   ·rw [decide_eq_true h0]
    simp only
    rw [len_eL L rfl,aD]
    show Rs.ok (T.bl (decide (i<((L.length:Nat):Int))))=_
    rw [Bool.true_and]
    congr 2
    exact decide_eq_decide.mpr (by omega)
   ·rw [decide_eq_false h0];rfl
  have z:=k_or0 (c8 (k:=true) (a8 (k_o1 (t:=.int i) (ρ:=lbE L t d s3 (.va (.int i))) (fa:=vr 4) (g:=isT "int") rfl rfl))) (k_or0 (a8 (k_o1 (t:=.int i) (ρ:=lbE L t d s3 (.va (.int i))) (fa:=vr 4) (g:=isT "bool") rfl rfl)) (c8 (a8 c)))
  cases q:aK (.int i) 0 ((L.length:Int) - 1)with
  | true=>rw [q]at z;exact(cG z).trans rfl
  | false=>rw [q]at z;exact(ck z).trans rfl
 | bl b=>exact(ck (k_or0 (c8 (k:=true) (a8 (k_o1 (t:=.bl b) rfl rfl))) (k_or1 (a8 (k_o1 (t:=.bl b) rfl rfl))))).trans rfl
 | non=>exact no rfl rfl
 | str s=>exact no rfl rfl
 | tup l=>exact no rfl rfl
 | lst l=>exact no rfl rfl
 | scr l=>cases h
 | dct _ _=>cases h
def secT (t:T):T:=match t with
 | .tup [_,u] =>u
 | _=> .non
theorem enum_sec (p:T->Bool):∀ (l:List T) (n:Nat),((ba n l).all fun t=>p (secT t))=l.all p
 | [],_=>rfl
 | u::l,n=>by rw [ba,List.all_cons,List.all_cons,enum_sec p l];rfl
theorem enum_mem:∀ {l:List T} {n:Nat} {t:T},t∈ba n l->∃ k u,t= .tup [.int (k:Nat),u]/\u∈l
 | [],_,_,h=>nomatch h
 | u::l,n,t,h=>by
  rw [ba]at h
  rcases List.mem_cons.mp h with e | h
  ·exact⟨n,u,e,List.mem_cons_self⟩
  ·obtain⟨k,w,e,hw⟩:=enum_mem h
   exact⟨k,w,e,List.mem_cons_of_mem _ hw⟩
abbrev lbF:En->Rs Fl:=(az (fo (tb (o2 neT (o2 aO (o2 aO (vr 0) (o2 aO (vr 1) (o2 dG (vr 3) (cn (.int 1))))) (cn (.int 1))) (o2 aO (o2 aO (vr 0) (vr 4)) (cn (.int 0))))) (aM (cn (.bl false))) sN) (b8 (o2 aI (vr 2) (o2 aO (o2 aO (vr 0) (vr 4)) (cn (.int 2)))) (gN 2)))
theorem lb_loop {t:T}:∀ (r:List Nat) (n q:Nat) (x:N2×N2×Int) (d:Int) (s3 s4:Sl),(∀k∈r,k<L.length)->L[q]? =some x->aO t (.int ((n:Int) - 1))= .ok (.int (q:Nat))->(∀i,(hi:i<r.length)->aO t (.int ((n+i:Nat):Int))= .ok (.int (r[i]:Nat))) →
  match run L x.2.1 r with
  | some c=> ∃s3' s4',aP (gT 2 (eR (gN 3) (eR (gN 4) gsN))) lbF (ba n (eN r)) (lbE L t d s3 s4)= .ok (.nx (lbE L t (d+cu L r) s3' s4'))
  | none=>aP (gT 2 (eR (gN 3) (eR (gN 4) gsN))) lbF (ba n (eN r)) (lbE L t d s3 s4)= .ok (.rt (.bl false))
 | [],n,q,x,d,s3,s4,_,_,_,_=>⟨s3,s4,by show Rs.ok (Fl.nx _)=_;rw [cu,Int.add_zero]⟩
 | k::r,n,q,x,d,s3,s4,hk,hx,hq,hr=>by
  have hk0:=hk k List.mem_cons_self
  have e:L[k]? =some L[k]:=List.getElem?_eq_getElem hk0
  unfold run
  rw [e]
  simp only
  have c1:tb (o2 neT (o2 aO (o2 aO (vr 0) (o2 aO (vr 1) (o2 dG (vr 3) (cn (.int 1))))) (cn (.int 1))) (o2 aO (o2 aO (vr 0) (vr 4)) (cn (.int 0)))) (lbE L t d (.va (.int (n:Nat))) (.va (.int (k:Nat))))= .ok (!decide (x.2.1=L[k].1)):=
   a8 (aw (t:=en x.2.1) (u:=en L[k].1) (aw (t:=eB x) (u:=.int 1) (at_eL rfl (aw (t:=t) (u:=.int ((n:Int) - 1)) rfl (aw (t:=.int (n:Nat)) (u:=.int 1) rfl rfl rfl) hq) hx) rfl rfl) (aw (t:=eB L[k]) (u:=.int 0) (at_eL rfl rfl e) rfl rfl) (ne_en _ _))
  show match(if L[k].1=x.2.1 then run L L[k].2.1 r else none)with
   | some c=> ∃s3' s4',aP _ lbF (.tup [.int (n:Nat),.int (k:Nat)] ::ba (n+1) (eN r)) _=_
   | none=>aP _ lbF (.tup [.int (n:Nat),.int (k:Nat)] ::ba (n+1) (eN r)) _=_
  by_cases z:L[k].1=x.2.1
  ·rw [if_pos z]
   have st:lbF (lbE L t d (.va (.int (n:Nat))) (.va (.int (k:Nat))))= .ok (.nx (lbE L t (d+L[k].2.2) (.va (.int (n:Nat))) (.va (.int (k:Nat))))):=by
    rw [decide_eq_true z.symm]at c1
    refine(ax (ρ':=lbE L t d (.va (.int (n:Nat))) (.va (.int (k:Nat)))) ((cG c1).trans rfl)).trans ?_
    exact bN (t:=.int (d+L[k].2.2)) (aw (t:=.int d) (u:=.int L[k].2.2) rfl (aw (t:=eB L[k]) (u:=.int 2) (at_eL rfl rfl e) rfl rfl) rfl) rfl
   have ih:=lb_loop (t:=t) r (n+1) k L[k] (d+L[k].2.2) (.va (.int (n:Nat))) (.va (.int (k:Nat))) (fun j hj=>hk j (List.mem_cons_of_mem _ hj)) e (by
    have:=hr 0 (by simp)
    simp only [Nat.add_zero,List.getElem_cons_zero]at this
    rw [<-this]
    congr 2
    omega) fun i hi=>by
     have:=hr (i+1) (by simp;omega)
     rw [List.getElem_cons_succ]at this
     rw [<-this]
     congr 3
     omega
   have ec:d+cu L (k::r)=d+L[k].2.2+cu L r:=by rw [cu,most,e];simp only;omega
   rw [cy (ρ1:=lbE L t d (.va (.int (n:Nat))) (.va (.int (k:Nat)))) rfl st,ec]
   exact ih
  ·rw [if_neg z]
   rw [decide_eq_false (fun y=>z y.symm)]at c1
   exact k_loopr (ρ1:=lbE L t d (.va (.int (n:Nat))) (.va (.int (k:Nat)))) rfl (cx ((ck c1).trans rfl))
theorem ix_end (l:List T)(h:l≠ []):aO (.lst l) (.int (-1))= .ok (l.getLast h):=by
 show(match L2.atI l (-1)with | some t=>Rs.ok t | none=> .bad)=_
 have hp:0<l.length:=List.length_pos_iff.mpr h
 have e:L2.atI l (-1)=some (l.getLast h):=by
  unfold L2.atI L2.ixN
  rw [if_neg (by omega),if_pos (by omega)]
  show l[((-1:Int)+l.length).toNat]? =_
  rw [List.getLast_eq_getElem,show((-1:Int)+l.length).toNat=l.length - 1 by omega,List.getElem?_eq_getElem]
 rw [e]
theorem run_end:∀ {ks:List Nat} {a b:N2} {x:N2×N2×Int} (h:ks≠ []),run L a ks=some b->L[ks.getLast h]? =some x->b=x.2.1
 | [k],a,b,x,_,hr,hx=>by
  unfold run at hr
  rw [show L[k]? =some x from hx]at hr
  simp only at hr
  by_cases z:x.1=a
  ·rw [if_pos z,run]at hr;exact(Option.some.inj hr).symm
  ·rw [if_neg z]at hr;cases hr
 | k::j::r,a,b,x,_,hr,hx=>by
  unfold run at hr
  cases e:L[k]? with
  | none=>rw [e]at hr;cases hr
  | some y=>
   rw [e]at hr
   simp only at hr
   by_cases z:y.1=a
   ·rw [if_pos z]at hr;exact run_end (ks:=j::r) (by simp) hr (by rwa [List.getLast_cons (by simp)]at hx)
   ·rw [if_neg z]at hr;cases hr
theorem run_same {k:Nat}{r:List Nat}{a c:N2}(h:run L a (k::r)=some c):fS L k=a:=by
 unfold run at h
 unfold fS
 cases e:L[k]? with
 | none=>rw [e]at h;cases h
 | some y=>
  rw [e]at h
  simp only at h ⊢
  by_cases z:y.1=a
  ·exact z
  ·rw [if_neg z]at h;cases h
theorem e_lbars (t:T)(h:t.pl=true):dB [eL L,t] = .ok (.bl (barB L t)):=by
 refine aY rfl ?_
 show eM [.va (eL L),.va t,.em,.em,.em] =_
 unfold eM
 have no:∀ {F:En->Rs Fl},isT "list" t= .ok (.bl false)->barB L t=false->(az (fo (orB (dM (tb (o1 (isT "list") (vr 1)))) (tb (o2 eqT (vr 1) (bY ah)))) (aM (cn (.bl false))) sN) F) [.va (eL L),.va t,.em,.em,.em] = .ok (.rt (.bl (barB L t))):=fun {F} e w=>by
  rw [w]
  exact cx ((ck (k_or1 (c8 (k:=false) (a8 (k_o1 (t:=t) rfl e))))).trans rfl)
 cases t with
 | lst l=>
  have c:=k_or0 (c8 (k:=true) (a8 (k_o1 (g:=isT "list") (fa:=vr 1) (ρ:=[.va (eL L),.va (.lst l),.em,.em,.em]) (t:=.lst l) rfl rfl))) (a8 (aw (fa:=vr 1) (fb:=bY ah) (t:=.lst l) (u:=.lst []) rfl (eE rfl (au (k:=1) (by simp))) (eq_nil l h)))
  cases l with
  | nil=>exact cx ((ck c).trans rfl)
  | cons u0 l0=>
   rw [ax (ρ':=[.va (eL L),.va (.lst (u0::l0)),.em,.em,.em]) ((cG c).trans rfl)]
   rw [ax (ρ':=lbE L (.lst (u0::l0)) 0 .em .em) (bN (t:=.int 0) rfl rfl)]
   generalize hl:u0::l0=l
   rw [hl]at h
   have la:=loop_all (g:=gT 2 (eR (gN 3) (eR (gN 4) gsN))) (F:=lbC) (p:=fun t=>aK (secT t) 0 ((L.length:Int) - 1)) (fun ρ=> ∃s3 s4,ρ=lbE L (.lst l) 0 s3 s4) (ba 0 l) (fun t ht ρ hh_=>by
    obtain⟨s3,s4,e⟩:=hh_
    subst e
    obtain⟨k,u,rfl,hu⟩:=enum_mem ht
    have c:=lbC_at (L:=L) (.lst l) 0 (.va (.int (k:Nat))) u (gx (pl_lst▸h) hu)
    refine⟨_,rfl,fun q=>⟨_,?_,.va (.int (k:Nat)),.va u,rfl⟩,fun q=> ?_⟩
    ·rw [show aK u 0 ((L.length:Int) - 1)=true from q]at c;exact c
    ·rw [show aK u 0 ((L.length:Int) - 1)=false from q]at c;exact c) (lbE L (.lst l) 0 .em .em) ⟨_,_,rfl⟩
   rw [enum_sec (fun u=>aK u 0 ((L.length:Int) - 1))]at la
   cases q:l.all fun u=>aK u 0 ((L.length:Int) - 1)with
   | false=>
    rw [cx (cT (ts:=ba 0 l) (k_iEl rfl) (la.2 q))]
    have:barB L (.lst l)=false:=by unfold barB;rw [show gf L.length (.lst l)=false from q];rfl
    rw [this]
   | true=>
    obtain⟨_,e1,s3,s4,rfl⟩:=la.1 q
    obtain⟨ks,ek,hk⟩:=nums_ks (n:=L.length) (t:=.lst l) q
    cases ek
    rw [ax (cT (ts:=ba 0 (eN ks)) (k_iEl rfl) e1)]
    have hne:ks≠ []:=fun z=>by subst z;cases hl
    have hlast:=hk _ (List.getLast_mem hne)
    have e:L[ks.getLast hne]? =some L[ks.getLast hne]:=List.getElem?_eq_getElem hlast
    have hne2:eN ks≠ []:=fun z=>hne (List.map_eq_nil_iff.mp z)
    have lo:=lb_loop (L:=L) (t:=.lst (eN ks)) ks 0 (ks.getLast hne) L[ks.getLast hne] 0 s3 s4 hk e (by
     rw [show((0:Nat):Int) - 1= -1 by omega,ix_end (eN ks) hne2]
     simp only [List.getLast_eq_getElem,eN,List.getElem_map,List.length_map]) fun i hi=>by
      rw [Nat.zero_add]
      exact k_ixvl (by unfold eN;rw [List.getElem?_map,List.getElem?_eq_getElem hi];rfl)
    unfold barB
    rw [gF,nums_of_ks hk,Bool.true_and]
    obtain⟨k,r,rfl⟩:=List.exists_cons_of_ne_nil hne
    show _=Rs.ok (Fl.rt (T.bl (decide (run L (fS L k) (k::r)=some (fS L k))&&decide (cu L (k::r)<0))))
    cases rr:run L L[(k::r).getLast hne].2.1 (k::r)with
    | none=>
     rw [rr]at lo
     rw [cx (cT (ts:=ba 0 (eN (k::r))) (k_iEl rfl) lo)]
     have:¬ run L (fS L k) (k::r)=some (fS L k):=fun z=>by
      have:=run_end hne z e
      rw [<-this]at rr
      rw [z]at rr
      cases rr
     rw [decide_eq_false this];rfl
    | some b=>
     rw [rr]at lo
     obtain⟨s3',s4',lo⟩:=lo
     rw [ax (cT (ts:=ba 0 (eN (k::r))) (k_iEl rfl) lo),Int.zero_add]
     have e3:=run_same rr
     have e4:=run_end hne rr e
     rw [<-e3]at rr
     have:run L (fS L k) (k::r)=some (fS L k):=by rw [rr,e4,<-e3]
     rw [decide_eq_true this,Bool.true_and]
     exact bB (aw (t:=.int (cu L (k::r))) (u:=.int 0) rfl rfl rfl)
 | non=>exact no rfl rfl
 | bl c=>exact no rfl rfl
 | int c=>exact no rfl rfl
 | str c=>exact no rfl rfl
 | tup c=>exact no rfl rfl
 | scr l=>cases h
 | dct _ _=>cases h
end
structure Flat (l:List T):Prop where
 len:l.length<=60
 pl:∀ u∈l,u.pl=true
def Ok (t:T):Prop:=t.pl=true/\∀ l,t= .lst l->l.length<=1000
theorem gz {l:List T}(h:∀ u∈l,u.pl=true)(hl:l.length<=1000):Ok (.lst l):=⟨by rw [pl_lst];exact plS_of h,fun m e=>by cases e;exact hl⟩
theorem ne_bl (b:Bool):neT (.bl b) (.bl b)= .ok (.bl false):=ne_same rfl (by simp [T.dep])
theorem sl_take {f g:En->Rs T}{ρ:En}{l:List T}{n:Nat}(h:f ρ= .ok (.lst l))(h2:g ρ= .ok (.int (n:Nat))):sl f pN (pS g) ρ= .ok (.lst (l.take n)):=by rw [k_sll h rfl (k_pS h2),cut_take]
theorem sl_drop {f g:En->Rs T}{ρ:En}{l:List T}{n:Nat}(h:f ρ= .ok (.lst l))(h2:g ρ= .ok (.int (n:Nat))):sl f (pS g) pN ρ= .ok (.lst (l.drop n)):=by rw [k_sll h (k_pS h2) rfl,cut_drop]
section
variable {cs ls:List T}{L:br N2}{P:List N2}{ns:List Int}
theorem Rd.barring (R:Rd cs ls L P):∃ t,((NoNeg L/\t= .non)\/(∃q,Bar L q/\t= .lst (eN q)))/\ft [.tup [.tup cs,.tup ls]] = .ok t:=by
 obtain⟨r,hr,ok⟩:=e_settle R.f R.nd (fun v h=>h)
 have wrap:∀ {x y:T},dg [eL L,eS P] = .ok (.tup [x,y])->ft [.tup [.tup cs,.tup ls]] = .ok y:=fun {x y} e=>
  aY rfl (bB (aw (t:=.tup [x,y]) (u:=.int 1) (aL (ts:=[eL L,eS P]) (al (aL (ts:=[.tup [.tup cs,.tup ls]]) rfl R.bounds) (al (aL (ts:=[.tup [.tup cs,.tup ls]]) rfl R.events) rfl)) e) rfl rfl))
 cases r with
 | inr q=>exact⟨_,.inr ⟨q,ok,rfl⟩,wrap hr⟩
 | inl b=>
  obtain⟨ms,D,hr⟩:=hr
  have ok:Settled L P b:=ok
  have all:∀ v∈P,∃d w,b v=some (d,w):=fun v hv=>by
   obtain⟨d,w,e,_⟩:=ok.least v hv v 0 (.nil v)
   exact⟨d,w,e⟩
  let tm:N2->Int:=fun v=>match b v with | some x=>x.1 | none=>0
  have htm:∀ v∈P,∃w,b v=some (tm v,w):=fun v hv=>by
   obtain⟨d,w,e⟩:=all v hv
   refine⟨w,?_⟩
   show b v=some ((match b v with | some x=>x.1 | none=>0),w)
   rw [e]
  exact⟨_,.inl ⟨(ok.holds R.f.ends htm).noNeg,rfl⟩,wrap hr⟩
theorem bar_is {q:List Nat}(h:Bar L q):barB L (.lst (eN q))=true:=by
 obtain⟨h0,⟨a,ha⟩,hc,_⟩:=h
 unfold barB
 rw [gF,nums_of_ks ha.lt,Bool.true_and]
 cases q with
 | nil=>exact absurd rfl h0
 | cons k r=>
  have hr:=run_ch.mpr ha
  have e:=run_same hr
  show(decide (run L (fS L k) (k::r)=some (fS L k))&&decide (cu L (k::r)<0))=true
  rw [e,decide_eq_true hr,decide_eq_true hc];rfl
theorem told0 {R r t:T}(h:ft [R] = .ok r):bz [.int 0,R,t] = .ok r:=
 aY rfl (k_try (bB ((k_ife (p:=true) (a8 (aw (t:=.int 0) (u:=.int 0) rfl rfl rfl))).trans (aL (ts:=[R]) rfl h))))
theorem told1 {R r t:T}(h:m_bars [R,t] = .ok r):bz [.int 1,R,t] = .ok r:=
 aY rfl (k_try (bB ((k_ife (p:=false) (a8 (aw (t:=.int 1) (u:=.int 0) rfl rfl rfl))).trans (aL (ts:=[R,t]) rfl h))))
theorem bounds0 {R:T}(hp:R.pl=true)(h:isRec R=false):di [R] = .err "NoRecord":=by
 refine k_vale rfl ?_
 show fR [.va R,.em,.em,.em,.em] =_
 unfold fR
 exact k_seqe (k_exe (aL (ts:=[R]) rfl (need_rec0 hp h)))
theorem told_bad {R t:T}(hp:R.pl=true)(h:isRec R=false)(k:Nat)(hk:k<2):bz [.int (k:Nat),R,t] = .ok (gw 0):=by
 have b:=bounds0 hp h
 match k,hk with
 | 0,_=>
  refine aY rfl (k_trye (c:="NoRecord") (k_rete ((k_ife (p:=true) (a8 (aw (t:=.int 0) (u:=.int 0) rfl rfl rfl))).trans (aL (ts:=[R]) rfl (k_vale rfl ?_)))) r0)
  exact k_rete (k_o2e (k_cle (k_conse (aL (ts:=[R]) rfl b))))
 | 1,_=>
  refine aY rfl (k_trye (c:="NoRecord") (k_rete ((k_ife (p:=false) (a8 (aw (t:=.int 1) (u:=.int 0) rfl rfl rfl))).trans (aL (ts:=[R,t]) rfl (k_vale rfl ?_)))) r0)
  show F_bars [.va R,.va t,.em] =_
  unfold F_bars
  exact k_seqe (k_ase (aL (ts:=[R]) rfl b))
theorem rev_not (g:Good cs ls):isRec (.tup [.tup ls,.tup cs])=false:=by
 show(aU (.tup ls)&&_)=false
 have:aU (.tup ls)=false:=by
  unfold aU
  cases ls with
  | nil=>rfl
  | cons u r=>
   have hu:=g.l u List.mem_cons_self
   have:bn u=false:=by
    unfold bp at hu
    split at hu
    ·rfl
    ·cases hu
   show(_&&(bn u&&_))=false
   rw [this,Bool.false_and,Bool.and_false]
 rw [this,Bool.false_and]
end
abbrev wE (ns:List Int)(R:T)(L:br N2)(tb bt t:T)(s6 s7 s8 s9:Sl):En:=[.va (.scr ns),.va R,.va (eL L),.va tb,.va bt,.va t,s6,s7,s8,s9]
def th4 (l:List T)(n:Nat)(o:T):List T:=[.lst l,.lst (l.take n++l.drop (n+1)),.lst (l.take (n+1)++l.drop n),.lst (l.take n++ [o] ++l.drop (n+1))]
def th8 (l:List T)(n:Nat):List T:=[.lst l.reverse,.lst (l.drop n++l.take n),.lst (l++l),.lst []]
def th12 (l:List T):List T:=[.tup l,.non,.lst [.int 0],.lst [.int 0,.int 1]]
theorem th_ok {l:List T}(hl:Flat l)(n:Nat){o:T}(po:o.pl=true):∀ t∈th4 l n o++th8 l n++th12 l,Ok t:=fun t ht=>by
 have h60:=hl.len
 have lt:∀ k,(l.take k).length<=60:=fun k=>by rw [List.length_take];omega
 have ld:∀ k,(l.drop k).length<=60:=fun k=>by rw [List.length_drop];omega
 have pt:∀ k,∀u∈l.take k,u.pl=true:=fun k u hu=>hl.pl u (List.mem_of_mem_take hu)
 have pd:∀ k,∀u∈l.drop k,u.pl=true:=fun k u hu=>hl.pl u (List.mem_of_mem_drop hu)
 have app:∀ {x y:List T},(∀u∈x,u.pl=true)->(∀u∈y,u.pl=true)->∀ u∈x++y,u.pl=true:=fun hx hy u hu=>(List.mem_append.mp hu).elim (hx u) (hy u)
 have po1:∀ u∈ [o],u.pl=true:=fun u hu=>by rw [List.mem_singleton.mp hu];exact po
 have:=lt n;have:=lt (n+1);have:=ld n;have:=ld (n+1)
 unfold th4 th8 th12 at ht
 simp only [List.cons_append,List.nil_append,List.mem_cons,List.not_mem_nil,or_false]at ht
 rcases ht with rfl | rfl | rfl | rfl | rfl | rfl | rfl | rfl | rfl | rfl | rfl | rfl
 ·exact gz hl.pl (by omega)
 ·exact gz (app (pt _) (pd _)) (by rw [List.length_append];omega)
 ·exact gz (app (pt _) (pd _)) (by rw [List.length_append];omega)
 ·exact gz (app (app (pt _) po1) (pd _)) (by simp only [List.length_append,List.length_cons,List.length_nil];omega)
 ·exact gz (fun u hu=>hl.pl u (List.mem_reverse.mp hu)) (by rw [List.length_reverse];omega)
 ·exact gz (app (pd _) (pt _)) (by rw [List.length_append];omega)
 ·exact gz (app hl.pl hl.pl) (by rw [List.length_append];omega)
 ·exact gz (fun u hu=>nomatch hu) (by simp)
 ·exact⟨by rw [pl_tup];exact plS_of hl.pl,fun m e=>nomatch e⟩
 ·exact⟨rfl,fun m e=>nomatch e⟩
 ·exact gz (fun u hu=>by rw [List.mem_singleton.mp hu];rfl) (by simp)
 ·exact⟨rfl,fun m e=>by cases e;simp⟩
section
variable {cs ls:List T}{L:br N2}{P:List N2}{ns:List Int}
abbrev W13:En->Rs Fl:=(fo (tb (o2 neT (cl bz (ac (cn (.int 1)) (ac (vr 1) (ac (vr 9) ah)))) (cl dB (ac (vr 2) (ac (vr 9) ah))))) (aM (cn (.bl false))) sN)
theorem Rd.w13 (R:Rd cs ls L P){t:T}(h:Ok t)(tb bt l:T)(s6 s7 s8:Sl):W13 (wE ns (.tup [.tup cs,.tup ls]) L tb bt l s6 s7 s8 (.va t))= .ok (.nx (wE ns (.tup [.tup cs,.tup ls]) L tb bt l s6 s7 s8 (.va t))):=
 (cG (a8 (aw (t:=.bl (barB L t)) (u:=.bl (barB L t)) (aL (ts:=[.int 1,(.tup [.tup cs,.tup ls]),t]) rfl (told1 (R.bars h.1 h.2))) (aL (ts:=[eL L,t]) rfl (e_lbars t h.1)) (ne_bl _)))).trans rfl
abbrev W8:En->Rs Fl:=(az (b8 (cl aq (ac (vr 0) (ac (cn (.int 91)) (ac (o2 aI (cl bV (ac (vr 5) ah)) (cn (.int 1))) ah)))) (gN 6)) (az (b8 (o2 aO (bY (ac (o1 negT (cn (.int 1))) (ac (cl bV (ac (vr 2) ah)) (ac (cn (.bl true)) (ac (cn .non) (ac (cn (.str "0")) (ac (cn (.int 0)) (ac (cn (.int 1)) ah)))))))) (cl aq (ac (vr 0) (ac (cn (.int 92)) (ac (cn (.int 7)) ah))))) (gN 7)) (az (b8 (bY (ac (vr 5) (ac (o2 aI (sl (vr 5) pN (pS (vr 6))) (sl (vr 5) (pS (o2 aI (vr 6) (cn (.int 1)))) pN)) (ac (o2 aI (sl (vr 5) pN (pS (o2 aI (vr 6) (cn (.int 1))))) (sl (vr 5) (pS (vr 6)) pN)) (ac (o2 aI (o2 aI (sl (vr 5) pN (pS (vr 6))) (bY (ac (vr 7) ah))) (sl (vr 5) (pS (o2 aI (vr 6) (cn (.int 1)))) pN)) ah))))) (gN 8)) (az (b8 (o2 aI (vr 8) (bY (ac (o1 revT (vr 5)) (ac (o2 aI (sl (vr 5) (pS (vr 6)) pN) (sl (vr 5) pN (pS (vr 6)))) (ac (o2 aI (vr 5) (vr 5)) (ac (bY ah) ah)))))) (gN 8)) (az (b8 (o2 aI (vr 8) (bY (ac (cl gu (ac (vr 5) ah)) (ac (cn .non) (ac (bY (ac (cn (.int 0)) ah)) (ac (bY (ac (cn (.int 0)) (ac (cn (.int 1)) ah))) ah)))))) (gN 8)) (az (dy (iS (vr 8)) (gN 9) W13) (aM (o2 eqT (fw (iR (ac (cn (.int 2)) ah)) [none,some 1,some 5] (gN 0) bT (cl bz (ac (vr 0) (ac (o1 revT (vr 1)) (ac (vr 2) ah))))) (o2 bM (bY (ac (bi (ac (cn (.str "refused")) (ac (cn (.int 0)) ah))) ah)) (cn (.int 2)))))))))))
theorem Rd.w8 (R:Rd cs ls L P)(hn:ns.length<=63){l:List T}(hl:Flat l)(tb bt:T) :
  W8 (wE ns (.tup [.tup cs,.tup ls]) L tb bt (.lst l) .em .em .em .em)= .ok (.rt (.bl true)):=by
 have h60:=hl.len
 obtain⟨d,ed,d0,d1⟩:=bX ns 91 ((l.length:Int)+1) hn (by omega)
 obtain⟨n,rfl⟩:=Int.eq_ofNat_of_zero_le d0
 refine(ax (ρ':=wE ns (.tup [.tup cs,.tup ls]) L tb bt (.lst l) (.va (.int (n:Nat))) .em .em .em) (bN (aL (ts:=[.scr ns,.int ((91:Nat):Int),.int ((l.length:Int)+1)]) rfl ed) rfl)).trans ?_
 obtain⟨d,ed,d0,d1⟩:=bX ns 92 7 hn (by omega)
 obtain⟨o,ho,eo⟩:=pick_at (l:=[.int (-1),.int (L.length:Nat),.bl true,.non,.str "0",.int 0,.int 1]) d0 d1
 have po:o.pl=true:=by
  simp only [List.mem_cons,List.not_mem_nil,or_false]at ho
  rcases ho with rfl | rfl | rfl | rfl | rfl | rfl | rfl <;> rfl
 refine(ax (ρ':=wE ns (.tup [.tup cs,.tup ls]) L tb bt (.lst l) (.va (.int (n:Nat))) (.va o) .em .em) (bN (aw (t:=.lst [.int (-1),.int (L.length:Nat),.bl true,.non,.str "0",.int 0,.int 1]) (u:=.int d) (eE (al rfl (al (len_eL L rfl) rfl)) (au (k:=7) (by simp))) (aL (ts:=[.scr ns,.int ((92:Nat):Int),.int 7]) rfl ed) eo) rfl)).trans ?_
 have n1:∀ s6 s7 s8 s9,s6= .va (.int (n:Nat))->o2 aI (vr 6) (cn (.int 1)) (wE ns (.tup [.tup cs,.tup ls]) L tb bt (.lst l) s6 s7 s8 s9)= .ok (.int ((n+1:Nat):Int)):=fun s6 s7 s8 s9 z=>by subst z;exact aw (t:=.int (n:Nat)) (u:=.int 1) rfl rfl rfl
 have lt:∀ k,(l.take k).length<=60:=fun k=>by rw [List.length_take];omega
 have ld:∀ k,(l.drop k).length<=60:=fun k=>by rw [List.length_drop];omega
 have q1:=ef (l.take n) (l.drop (n+1)) (by rw [List.length_append];have:=lt n;have:=ld (n+1);omega)
 have q2:=ef (l.take (n+1)) (l.drop n) (by rw [List.length_append];have:=lt (n+1);have:=ld n;omega)
 have q3:=ef (l.take n) [o] (by rw [List.length_append];have:=lt n;simp only [List.length_cons,List.length_nil];omega)
 have q4:=ef (l.take n++ [o]) (l.drop (n+1)) (by simp only [List.length_append,List.length_cons,List.length_nil];have:=lt n;have:=ld (n+1);omega)
 refine(ax (ρ':=wE ns (.tup [.tup cs,.tup ls]) L tb bt (.lst l) (.va (.int (n:Nat))) (.va o) (.va (.lst (th4 l n o))) .em) (bN (eE (al rfl (al (aw (sl_take rfl rfl) (sl_drop rfl (n1 _ _ _ _ rfl)) q1) (al (aw (sl_take rfl (n1 _ _ _ _ rfl)) (sl_drop rfl rfl) q2) (al (aw (aw (sl_take rfl rfl) (eE rfl (au (k:=1) (by simp))) q3) (sl_drop rfl (n1 _ _ _ _ rfl)) q4) rfl)))) (au (k:=4) (by simp))) rfl)).trans ?_
 have q5:=ef l l (by rw [List.length_append];omega)
 have q6:=ef (l.drop n) (l.take n) (by rw [List.length_append];have:=lt n;have:=ld n;omega)
 refine(ax (ρ':=wE ns (.tup [.tup cs,.tup ls]) L tb bt (.lst l) (.va (.int (n:Nat))) (.va o) (.va (.lst (th4 l n o++th8 l n))) .em) (bN (aw (t:=.lst (th4 l n o)) (u:=.lst (th8 l n)) rfl (eE (ts:=[.lst l.reverse,.lst (l.drop n++l.take n),.lst (l++l),.lst []]) (al (k_o1 (t:=.lst l) rfl rfl) (al (aw (sl_drop rfl rfl) (sl_take rfl rfl) q6) (al (aw (t:=.lst l) (u:=.lst l) rfl rfl q5) (al (eE rfl (au (k:=1) (by simp))) rfl)))) (au (k:=4) (by simp))) (ef _ _ (by simp [th4,th8]))) rfl)).trans ?_
 refine(ax (ρ':=wE ns (.tup [.tup cs,.tup ls]) L tb bt (.lst l) (.va (.int (n:Nat))) (.va o) (.va (.lst (th4 l n o++th8 l n++th12 l))) .em) (bN (aw (t:=.lst (th4 l n o++th8 l n)) (u:=.lst (th12 l)) rfl (eE (ts:=[.tup l,.non,.lst [.int 0],.lst [.int 0,.int 1]]) (al (aL (ts:=[.lst l]) rfl rfl) (al rfl (al (eE rfl (au (k:=1) (by simp))) (al (eE rfl (au (k:=2) (by simp))) rfl)))) (au (k:=4) (by simp))) (ef _ _ (by simp [th4,th8,th12]))) rfl)).trans ?_
 obtain⟨ρ',lo,s9,rfl⟩:=loop_pass (g:=gN 9) (F:=W13) (fun ρ=> ∃s9,ρ=wE ns (.tup [.tup cs,.tup ls]) L tb bt (.lst l) (.va (.int (n:Nat))) (.va o) (.va (.lst (th4 l n o++th8 l n++th12 l))) s9) (ts:=th4 l n o++th8 l n++th12 l)
  (fun t ht ρ hh=>by
   obtain⟨s9,hρ⟩:=hh
   subst hρ
   exact⟨_,_,rfl,R.w13 (th_ok hl n po t ht) tb bt (.lst l) _ _ _,_,rfl⟩) (ρ:=wE ns (.tup [.tup cs,.tup ls]) L tb bt (.lst l) (.va (.int (n:Nat))) (.va o) (.va (.lst (th4 l n o++th8 l n++th12 l))) .em) ⟨_,rfl⟩
 refine(ax (cT (ts:=th4 l n o++th8 l n++th12 l) (k_iSl rfl) lo)).trans ?_
 have hp:(T.tup [.tup ls,.tup cs]).pl=true:=by
  have h:=R.g.p
  rw [pl_tup]at h ⊢
  exact plS_of fun u hu=>gx h (by simp only [List.mem_cons,List.not_mem_nil,or_false]at hu ⊢;exact hu.symm)
 have lc:fw (iR (ac (cn (.int 2)) ah)) [none,some 1,some 5] (gN 0) bT (cl bz (ac (vr 0) (ac (o1 revT (vr 1)) (ac (vr 2) ah)))) (wE ns (.tup [.tup cs,.tup ls]) L tb bt (.lst l) (.va (.int (n:Nat))) (.va o) (.va (.lst (th4 l n o++th8 l n++th12 l))) s9)= .ok (.lst ((rng 0 2).map fun _=>gw 0)):=
  k_lc (ts:=rng 0 2) (iR1 (j:=2) rfl (by omega) (by omega)) (au (k:=4) (by rw [show(2:Int)=((2:Nat):Int)from rfl,fW];omega)) (by simp) fun t ht=>by
   obtain⟨k,rfl,hk⟩:=rng_mem ht
   exact aL (ts:=[.int (k:Nat),.tup [.tup ls,.tup cs],.lst l]) rfl (told_bad hp (rev_not R.g) k (by omega))
 exact bB (aw (t:=.lst [gw 0,gw 0]) (u:=.lst [gw 0,gw 0]) lc (aw (t:=.lst [gw 0]) (u:=.int 2) (eE (al (p2 rfl rfl) rfl) (au (k:=1) (by simp))) rfl (mul_lst [gw 0] 2 ⟨by omega,by omega,au (k:=2) (by simp)⟩)) (eq_same rfl (by simp [T.dep,deps,gw])))
theorem pure_law (ns:List Int)(hn:ns.length<=63):m_law [.scr ns] = .ok (.bl true):=by
 obtain⟨cs,ls,er,hc,c3,hs,hl,l6⟩:=e_drec ns hn 0 6 (by omega)
 obtain⟨hR,mR⟩:=rec_ok hc hs hl (by omega)
 have g:Good cs ls:=⟨hc,fun t ht=>(hl t ht).1,by omega,sm_plT mR⟩
 obtain⟨L,P,R⟩:=rd_of g
 refine aY rfl ?_
 show F_law [.va (.scr ns),.em,.em,.em,.em,.em,.em,.em,.em,.em] =_
 unfold F_law
 rw [ax (ρ':=[.va (.scr ns),.va (.tup [.tup cs,.tup ls]),.em,.em,.em,.em,.em,.em,.em,.em]) (bN (aL (ts:=[.scr ns,.int ((0:Nat):Int),.int ((6:Nat):Int)]) rfl er) rfl)]
 rw [ax (ρ':=[.va (.scr ns),.va (.tup [.tup cs,.tup ls]),.va (eL L),.em,.em,.em,.em,.em,.em,.em]) (bN (aL (ts:=[(.tup [.tup cs,.tup ls])]) rfl (by rw [e_lbounds hc g.l g.n,R.b];rfl)) rfl)]
 obtain⟨tb,ht,et⟩:=e_table (L:=L) R.nd (by have:=R.pl;omega) R.f.ends
 rw [ax (ρ':=[.va (.scr ns),.va (.tup [.tup cs,.tup ls]),.va (eL L),.va tb,.em,.em,.em,.em,.em,.em]) (bN (aL (ts:=[eS P,eL L]) (al (aL (ts:=[.tup cs]) rfl (by rw [e_events cs hc,R.e];rfl)) rfl) et) rfl)]
 obtain⟨bt,hb,eb⟩:=R.barring
 rw [ax (ρ':=[.va (.scr ns),.va (.tup [.tup cs,.tup ls]),.va (eL L),.va tb,.va bt,.em,.em,.em,.em,.em]) (bN (aL (ts:=[.int 0,(.tup [.tup cs,.tup ls]),.non]) rfl (told0 eb)) rfl)]
 obtain⟨hw,eh,hh⟩:=R.hasw
 have hbt:((NoNeg L/\bt= .non)/\hw=true/\gg bt .non= .ok (.bl true)/\cM tb .non= .ok (.bl true))\/((∃q,Bar L q/\bt= .lst (eN q))/\hw=false/\gg bt .non= .ok (.bl false)/\cM tb .non= .ok (.bl false)):=by
  rcases hb with⟨nn,e⟩ | ⟨q,hq,e⟩
  ·rcases ht with⟨_,_,e2⟩ | ⟨no,_⟩
   ·exact .inl ⟨⟨nn,e⟩,hh.mpr nn,by rw [e];rfl,by rw [e2];rfl⟩
   ·exact absurd nn no
  ·have no:=Bar.neg hq
   rcases ht with⟨nn,_⟩ | ⟨_,e2⟩
   ·exact absurd nn no
   ·exact .inr ⟨⟨q,hq,e⟩,by cases hw with | true=>exact absurd (hh.mp rfl) no | false=>rfl,by rw [e];rfl,by rw [e2];rfl⟩
 have s4:∀ {b:Bool},hw=b->gg bt .non= .ok (.bl b)->cM tb .non= .ok (.bl b)->orB (Tr.tb (o2 neT (o2 gg (vr 4) (cn .non)) (o2 cM (vr 3) (cn .non)))) (Tr.tb (o2 neT (cl dA (ac (vr 1) ah)) (o2 cM (vr 3) (cn .non)))) [.va (.scr ns),.va (.tup [.tup cs,.tup ls]),.va (eL L),.va tb,.va bt,.em,.em,.em,.em,.em] = .ok false:=fun {b} e1 e2 e3=>
  k_or0 (a8 (aw (t:=.bl b) (u:=.bl b) (aw (t:=bt) (u:=.non) rfl rfl e2) (aw (t:=tb) (u:=.non) rfl rfl e3) (ne_bl b))) (a8 (aw (t:=.bl b) (u:=.bl b) (aL (ts:=[(.tup [.tup cs,.tup ls])]) rfl (by rw [eh,e1])) (aw (t:=tb) (u:=.non) rfl rfl e3) (ne_bl b)))
 rcases hbt with⟨⟨nn,rfl⟩,e1,e2,e3⟩ | ⟨⟨q,hq,rfl⟩,e1,e2,e3⟩
 ·rw [ax (ρ':=[.va (.scr ns),.va (.tup [.tup cs,.tup ls]),.va (eL L),.va tb,.va .non,.em,.em,.em,.em,.em]) ((cG (s4 e1 e2 e3)).trans rfl)]
  rw [ax (ρ':=[.va (.scr ns),.va (.tup [.tup cs,.tup ls]),.va (eL L),.va tb,.va .non,.em,.em,.em,.em,.em]) ((cG (k_and0 (a8 (aw (t:=.non) (u:=.non) rfl rfl rfl)))).trans rfl)]
  rw [ax (ρ':=wE ns (.tup [.tup cs,.tup ls]) L tb .non .non .em .em .em .em) (bN (t:=.non) rfl rfl)]
  obtain⟨r3,d3,p3,q3⟩:=bX ns 90 4 hn (by omega)
  obtain⟨n3,rfl⟩:=Int.eq_ofNat_of_zero_le p3
  have lc:fw (iR (ac (cl aq (ac (vr 0) (ac (cn (.int 90)) (ac (cn (.int 4)) ah)))) ah)) [none,some 0,some 2] (gN 0) bT (cl aq (ac (vr 1) (ac (o2 aI (cn (.int 80)) (vr 0)) (ac (o2 aI (cl bV (ac (vr 2) ah)) (cn (.int 1))) ah)))) (wE ns (.tup [.tup cs,.tup ls]) L tb .non .non .em .em .em .em)= .ok (.lst ((rng 0 (n3:Nat)).map fun t=>match t with | .int i=>okv (aq [.scr ns,.int ((80+i.toNat:Nat):Int),.int ((L.length:Int)+1)]) | _=> .non)):=
   k_lc (ts:=rng 0 (n3:Nat)) (iR1 (j:=(n3:Nat)) (al (aL (ts:=[.scr ns,.int ((90:Nat):Int),.int 4]) rfl d3) rfl) (by omega) (by omega)) (au (k:=4) (by rw [fW];omega)) (by simp) fun t ht=>by
    obtain⟨k,rfl,hk⟩:=rng_mem ht
    obtain⟨r,e,_⟩:=bX ns (80+k) ((L.length:Int)+1) hn (by omega)
    refine(aL (ts:=[.scr ns,.int ((80+k:Nat):Int),.int ((L.length:Int)+1)]) (al rfl (al (aw (t:=.int 80) (u:=.int (k:Nat)) rfl rfl rfl) (al (aw (t:=.int (L.length:Nat)) (u:=.int 1) (len_eL L rfl) rfl rfl) rfl))) e).trans ?_
    show Rs.ok (T.int r)= .ok (okv (aq [.scr ns,.int ((80+(k:Int).toNat:Nat):Int),.int ((L.length:Int)+1)]))
    rw [Int.toNat_natCast,e];rfl
  have fl:Flat ((rng 0 (n3:Nat)).map fun t=>match t with | .int i=>okv (aq [.scr ns,.int ((80+i.toNat:Nat):Int),.int ((L.length:Int)+1)]) | _=> .non):=⟨by rw [List.length_map,fW];omega,fun u hu=>by
   obtain⟨t,ht,rfl⟩:=List.mem_map.mp hu
   obtain⟨k,rfl,hk⟩:=rng_mem ht
   obtain⟨r,e,_⟩:=bX ns (80+k) ((L.length:Int)+1) hn (by omega)
   show(okv (aq [.scr ns,.int ((80+(k:Int).toNat:Nat):Int),.int ((L.length:Int)+1)])).pl=true
   rw [Int.toNat_natCast,e];rfl⟩
  generalize ((rng 0 (n3:Nat)).map fun t=>match t with | .int i=>okv (aq [.scr ns,.int ((80+i.toNat:Nat):Int),.int ((L.length:Int)+1)]) | _=> .non)=l at lc fl
  rw [ax (ρ':=wE ns (.tup [.tup cs,.tup ls]) L tb .non (.lst l) .em .em .em .em) ((ck (a8 (aw (t:=.non) (u:=.non) rfl rfl rfl))).trans (bN lc rfl))]
  exact R.w8 hn fl tb .non
 ·rw [ax (ρ':=[.va (.scr ns),.va (.tup [.tup cs,.tup ls]),.va (eL L),.va tb,.va (.lst (eN q)),.em,.em,.em,.em,.em]) ((cG (s4 e1 e2 e3)).trans rfl)]
  have pq:(T.lst (eN q)).pl=true:=by rw [pl_lst];exact plS_of (pl_eN q)
  rw [ax (ρ':=[.va (.scr ns),.va (.tup [.tup cs,.tup ls]),.va (eL L),.va tb,.va (.lst (eN q)),.em,.em,.em,.em,.em]) ((cG (k_and1 (a8 (aw (t:=.lst (eN q)) (u:=.non) rfl rfl rfl)) (c8 (k:=true) (a8 (aL (ts:=[eL L,.lst (eN q)]) rfl (by rw [e_lbars _ pq,bar_is hq])))))).trans rfl)]
  rw [ax (ρ':=wE ns (.tup [.tup cs,.tup ls]) L tb (.lst (eN q)) (.lst (eN q)) .em .em .em .em) (bN (t:=.lst (eN q)) rfl rfl)]
  rw [ax (ρ':=wE ns (.tup [.tup cs,.tup ls]) L tb (.lst (eN q)) (.lst (eN q)) .em .em .em .em) ((cG (a8 (aw (t:=.lst (eN q)) (u:=.non) rfl rfl rfl))).trans rfl)]
  have ql:q.length<=60:=by
   obtain⟨_,⟨a,ha⟩,_,hd⟩:=hq
   have:=Ch.len ha hd
   have:=R.ll
   omega
  exact R.w8 hn ⟨by rw [len_eN];exact ql,pl_eN q⟩ tb (.lst (eN q))
end
end G
end
lay_quick G.lhs G.rhs
name_quick lhsz for G.lhs by G.lhs_r
name_quick rhsz for G.rhs by G.rhs_r
open PySem PySem.W PyProof.Rows
set_option maxRecDepth 100000 in
set_option maxHeartbeats 0 in
theorem G.left1 (w : World) (os : OsState) : PySem.W.Fast.lhsz w (boot_heap w.params) boot_drawn boot_toks os = PySem.W.Fast.rhsz w := by kernel_rfl
set_option maxRecDepth 100000 in
set_option maxHeartbeats 0 in
theorem PySem.Challenge.cw_farclocks_k22_barring_holds : PySem.Challenge.rw_farclocks_k22_barring.Holds := by
  w_on; o_law
  refine holds_open (q := G.vw) (loose := G.lse) (Xt := fun _ => true) (XP := fun _ _ => True) (Yf := (Tr.hookK G.asks G.top).obs) (Ya := (Tr.hookK G.asks G.top).val) (YP := (Tr.hookK G.asks G.top).says) (N := 9000) (Tr.left_of (by rfl) (by rfl) (fun _ => rfl) fun w os => ?hl) (Tr.hookK G.asks G.top).of (Tr.hookK G.asks G.top).keeps (fun _ _ => trivial) (fun _ _ _ _ _ => trivial) (by rfl) (by rfl) (by rfl) (fun s _ => recFacts_of (s := s) rfl) (by rfl) (by assumption) (by decide +kernel) ⟨rfl, rfl, rfl, rfl, rfl, by decide +kernel⟩ ?hw ?hc
  case hl => exact ((congrFun (congrFun (congrFun (congrFun (congrFun PySem.W.Fast.lhsz_eq w) _) _) _) os).trans (G.left1 w os)).trans (congrFun PySem.W.Fast.rhsz_eq w).symm
  case hw => w_witness2
  case hc => exact Tr.walk_k (n := 63) (k := 12) (x := "_law_script") (CX := L2.CX0) (sp := fun K => Tr.spP K 1 G.m_law) rfl (by decide) rfl ⟨rfl, by decide, by decide⟩ (fun w K mg fa h X e g hf => G.all_ok X e g hf) (fun K H a ns hl _ hS => Tr.sp_script hS (G.pure_law ns hl)) fun _ _ _ _ z => z
