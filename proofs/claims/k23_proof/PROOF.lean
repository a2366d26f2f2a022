import PyProof.Rows.All
import Wide.All
import OpenK.AllK
import Wide.FinOn
import Lean
import PyProof.EqAt
import PyProof.EqKinds
import PyProof.TupleCall
import PyProof.ExcClass3
import PyProof.StationsW
import PyProof.ExcBaseAll.ValueError
import PyProof.ExcArgsOwn
import PyProof.IsiBase
import PyProof.IsiH_tuple
import PyProof.ExcAttrAll.ValueError
import PyProof.Rows.RuleN_isinstance
import PyProof.MeetsSeq
import PyProof.RulesAs
import PyProof.IsiH_list
import PyProof.AttrMiss
import KE.KDictOf
import PyProof.Rows.SumAny
import PyProof.Rows.MinMaxN
import PyProof.Rows.SortShellK
import PyProof.Rows.SortWalk
import PyProof.ZipIter
import PyProof.WalksMore
import PySem.Challenge.RW_farclocks_k23_whole_one_or_the_other
set_option Elab.async false
set_option linter.all false
set_option maxRecDepth 100000
set_option maxHeartbeats 8000000
noncomputable section
namespace L2
open PySem PySem.Spec PyProof.Rows
abbrev Key:=Sum Int Str
def md:Key->Value->Bool
 | .inl k,v=>Value.isInt k v
 | .inr x,v=>Value.isStrOf x v
def keyH (w:World):Key->Int
 | .inl k=>hashInt k
 | .inr x=>hashStr w x
theorem bX:∀{k:Key} {v:Value},md k v=true->(∃i t,k=Sum.inl i/\v=Value.int i t)\/(∃x t,k=Sum.inr x/\v=Value.str x t)
 | .inl i,v,h=>by
  obtain⟨t,e⟩:=Value.isInt_shape (k:=i) (v:=v) h
  exact .inl ⟨i,t,rfl,e⟩
 | .inr x,v,h=>by
  obtain⟨t,e⟩:=Value.isStrOf_shape (x:=x) (v:=v) h;exact .inr ⟨x,t,rfl,e⟩
theorem r9 (i:Int)(t:Tok):md (.inl i) (.int i t)=true:=by simp[md,Value.isInt]
theorem r8 (x:Str)(t:Tok):md (.inr x) (.str x t)=true:=by simp[md,Value.isStrOf]
theorem zK (a b:Int):decide ((Sum.inl a:Key)=Sum.inl b)=(a == b):=by
 by_cases e:a=b
 ·subst e;simp
 ·have h:¬ (Sum.inl a:Key)=Sum.inl b:=λq=>e (Sum.inl.inj q)
  rw[decide_eq_false h];exact(beq_eq_false_iff_ne.mpr e).symm
theorem zH (a b:Str):decide ((Sum.inr a:Key)=Sum.inr b)=decide (a=b):=by
 by_cases e:a=b
 ·subst e;simp
 ·have h:¬ (Sum.inr a:Key)=Sum.inr b:=λq=>e (Sum.inr.inj q)
  rw[decide_eq_false h,decide_eq_false e]
theorem zJ (a:Int)(b:Str):decide ((Sum.inl a:Key)=Sum.inr b)=false:=decide_eq_false (λq=>nomatch q)
theorem zI (a:Str)(b:Int):decide ((Sum.inr a:Key)=Sum.inl b)=false:=decide_eq_false (λq=>nomatch q)
def bU (prog:Program)(w:World):PySem.KeyKind prog w Key where
 is:=md
 hash:=keyH w
 inj:=λv a b ha hb=>by
  rcases bX ha with⟨i,t,rfl,rfl⟩ | ⟨x,t,rfl,rfl⟩
  ·rcases bX hb with⟨j,u,rfl,e⟩ | ⟨y,u,rfl,e⟩
   ·injection e with e1 _;rw[e1]
   ·exact nomatch e
  ·rcases bX hb with⟨j,u,rfl,e⟩ | ⟨y,u,rfl,e⟩
   ·exact nomatch e
   ·injection e with e1 _;rw[e1]
 byValue:=λk v h=>by
  rcases bX h with⟨i,t,rfl,rfl⟩ | ⟨x,t,rfl,rfl⟩ <;> rfl
 pyHash:=λhv h=>by
  rcases bX hv with⟨i,t,rfl,rfl⟩ | ⟨x,t,rfl,rfl⟩
  ·exact wpAny_pyHash_int h
  ·exact wpAny_pyHash_str h
 eqBool:=λhu hv h=>by
  rcases bX hu with⟨i,t,rfl,rfl⟩ | ⟨x,t,rfl,rfl⟩
  ·rcases bX hv with⟨j,u,rfl,rfl⟩ | ⟨y,u,rfl,rfl⟩
   ·rw[zK]at h;exact wpAny_eqBool_int h
   ·rw[zJ]at h;exact SeqAt.EqAt.int_str i t y u _ _ _ _ h
  ·rcases bX hv with⟨j,u,rfl,rfl⟩ | ⟨y,u,rfl,rfl⟩
   ·rw[zI]at h;exact SeqAt.EqAt.str_int x t j u _ _ _ _ h
   ·rw[zH]at h;exact wpAny_eqBool_str h
 «strs»:=λk x t v h=>by
  rcases bX h with⟨i,u,rfl,e⟩ | ⟨y,u,rfl,e⟩
  ·exact nomatch e
  ·injection e with e1 _
   subst e1;cases v <;> rfl
theorem oY (prog:Program)(w:World)(i:Int)(t:Tok):(bU prog w).is (.inl i) (.int i t)=true:=r9 i t
theorem oX (prog:Program)(w:World)(x:Str)(t:Tok):(bU prog w).is (.inr x) (.str x t)=true:=r8 x t
inductive V where
 | non | bl (b:Bool) | int (i:Int) | str (x:Str) | byt (b:Array UInt8) | flt (b:UInt64) | ref (a:Addr) | ty (n:String)
 deriving DecidableEq
def RelV:V->Value->Prop
 | .non,u=>u=Value.none
 | .bl b,u=>u=Value.bool b
 | .int i,u=> ∃t,u=Value.int i t
 | .str x,u=> ∃t,u=Value.str x t
 | .byt b,u=> ∃t,u=Value.bytes b t
 | .flt b,u=> ∃t,u=Value.float b t
 | .ref a,u=>u=Value.ref a
 | .ty n,u=>u=Value.type n
abbrev Vals:List V->List Value->Prop:=Paired RelV
theorem Vals.length {xs:List V}{us:List Value}(r:Vals xs us):xs.length=us.length:=Paired.length r
theorem Vals.get:∀{xs:List V} {us:List Value} {i:Nat} {x:V},Vals xs us->xs[i]? =some x->∃u,us[i]? =some u/\RelV x u
 | _,_,_,_,.nil,e=>by simp at e
 | _,_,0,_,.cons r _,e=>by simp at e;subst e;exact⟨_,rfl,r⟩
 | _,_,i+1,x,.cons _ t,e=>by
  obtain⟨u,h1,h2⟩:=Vals.get (i:=i) (x:=x) t (by simpa using e)
  exact⟨u,by simpa using h1,h2⟩
theorem Vals.append:∀{xs ys:List V} {us ws:List Value},Vals xs us->Vals ys ws->Vals (xs++ys) (us++ws)
 | _,_,_,_,.nil,s=>s
 | _,_,_,_,.cons r t,s=> .cons r (Vals.append t s)
theorem Vals.take:∀{xs:List V} {us:List Value} (n:Nat),Vals xs us->Vals (xs.take n) (us.take n)
 | _,_,0,_=> .nil
 | _,_,_+1,.nil=> .nil
 | _,_,n+1,.cons r t=> .cons r (Vals.take n t)
theorem Vals.drop:∀{xs:List V} {us:List Value} (n:Nat),Vals xs us->Vals (xs.drop n) (us.drop n)
 | _,_,0,r=>r
 | _,_,_+1,.nil=> .nil
 | _,_,n+1,.cons _ t=>Vals.drop n t
def RelO:Option V->Option Value->Prop
 | some v,some u=>RelV v u
 | none,none=>True
 | _,_=>False
def KV {κ:Type}:List (κ×V)->List (κ×Value)->Prop:=Paired λ(p:κ×V) (q:κ×Value)=>p.1=q.1/\RelV p.2 q.2
def kV:Key->V
 | .inl i=> .int i
 | .inr x=> .str x
inductive HO where
 /-- a list -/
 | lst (xs:List V)
 /-- a tuple (never changes) -/
 | tup (xs:List V)
 /-- a dict whose keys are ints and texts;one whose keys are tuples of ints and texts (the empty one is both) -/
 | dK (kvs:List (Key×V)) | dT (kvs:List (List Key×V))
 /-- a set of ints: its members,its size -/
 | set (S:Int->Bool) (n:Nat)
 /-- an instance of the class at C,its dict at dx,its attributes -/
 | ins (C dx:Addr) (fs:List (Str×V))
 /-- the dict of the instance at x -/
 | own (x:Addr)
 /-- the dict of an exception -/
 | xd (fs:List (Str×V))
 /-- a bound method,f of x -/
 | met (f x:Addr)
 /-- a range object lo,lo+1,.. below hi -/
 | rng (lo hi:Int)
 /-- a thing that is known to the object (the script;a dict while a loop walks it): read,never written while it is so -/
 | frz (o:Obj) (u:HO)
 /-- a code object's table -/
 | tbl (ps:Array Value)
 /-- any other thing,by what is true of its one object (a def of one's own: SetO a S n:=HO.ext λh=> ..) -/
 | ext (φ:Heap->Prop)
abbrev Hp:=Addr->Option HO
def upd (H:Hp)(a:Addr)(o:HO):Hp:=λb=>if b=a then some o else H b
theorem aR {H:Hp}{a:Addr}{o:HO}:upd H a o a=some o:=by unfold upd;rw[if_pos rfl]
theorem aG {H:Hp}{a b:Addr}{o:HO}(h:b≠a):upd H a o b=H b:=by unfold upd;rw[if_neg h]
theorem gQ {H:Hp}{a:Addr}{o u:HO}:upd (upd H a o) a u=upd H a u:=by
 funext b;unfold upd;split <;> rfl
theorem kZ {H:Hp}{a b:Addr}{o u:HO}(h:H a=some o)(h':H b=some u)(d:o≠u):a≠b:=by
 intro e;subst e;rw[h]at h';exact d (Option.some.inj h')
theorem bK {H:Hp}{a b:Addr}{o:HO}(h:H a=some o)(h':H b=none):a≠b:=by
 intro e;subst e;rw[h]at h';cases h'
section
variable (P:Program)(w:World)
def ObjOk (H:Hp)(h:Heap)(a:Addr):HO->Prop
 | .lst xs=>xs.length<=sizeLine/\∃(its:List Value) (n:Nat),Vals xs its/\h.get? a=some { cls:=.type "list",data:=.seq its.toArray n }
 | .tup xs=>xs.length<=sizeLine/\∃its:List Value,Vals xs its/\IsTup h a its.toArray
 | .dK kvs=>kvs.length<=sizeLine/\(a == sysModules)=false/\∃vs,KV kvs vs/\h.DictOf (bU P w) a vs
 | .dT kvs=>kvs.length<=sizeLine/\(a == sysModules)=false/\∃xs:List (List Key×Addr×Value),
   Paired (λ(p:List Key×V) (q:List Key×Addr×Value)=>p.1=q.1/\H q.2.1=some (.tup (p.1.map kV))/\RelV p.2 q.2.2) kvs xs ∧
   ∃o es ep,h.get? a=some o/\o.ExactDict/\o.data= .dict es ep/\es.toList=xs.map (entryOfKey (tupleKind (bU P w)))/\(xs.map (·.1)).Nodup
 | .set S n=>h.SetOf (intKind P w) a S n
 | .ins C dx fs=>H dx=some (.own a)/\fs.length<=1000/\dx≠a/\h.get? a=some (PySem.W.instObj C dx) ∧
   ∃mA,h.Ns1 dx mA/\(∀f,RelO (fs.lookup f) (mA f))/\PySem.Within mA (fs.map (·.1))
 | .own _=> ∃o,h.get? a=some o
 | .xd fs=> ∃mA,h.Ns1 a mA/\∀f,RelO (fs.lookup f) (mA f)
 | .rng lo hi=> ∃t u v,h.get? a=some { cls:=.type "range",data:=.fields #[.int lo t,.int hi u,.int 1 v] }
 | .frz o u=>h.get? a=some o/\ObjOk H h a u
 | .tbl ps=>h.get? a=some { cls:=.none,data:=.fields ps }
 | .met f x=>h.get? a=some (PySem.W.methodObj (.ref f) (.ref x))
 | .ext φ=>φ h/\(∃o,h.get? a=some o)/\∀h1 h2:Heap,φ h1->(∀o,h1.get? a=some o->h2.get? a=some o)->φ h2
def HOk (H:Hp)(h:Heap):Prop:=∀a o,H a=some o->ObjOk P w H h a o
end
section
variable {P:Program}{w:World}{H H':Hp}{h h':Heap}{a:Addr}{o:HO}
theorem ObjOk.lt (x:ObjOk P w H h a o):a<h.objs.size:=by
 cases o with
 | lst xs=>obtain⟨_,_,_,_,e⟩:=x;exact Heap.lt_size e
 | tup xs=>obtain⟨_,_,_,p⟩:=x;exact p.lt
 | dK kvs=>obtain⟨_,_,_,_,o,_,_,e,_⟩:=x;exact Heap.lt_size e
 | dT kvs=>obtain⟨_,_,_,_,o,_,_,e,_⟩:=x;exact Heap.lt_size e
 | set S n=>obtain⟨o,_,_,_,e,_⟩:=x;exact Heap.lt_size e
 | ins C dx fs=>obtain⟨_,_,_,e,_⟩:=x;exact Heap.lt_size e
 | own y=>obtain⟨_,e⟩:=x;exact Heap.lt_size e
 | xd fs=>obtain⟨_,⟨_,_,_,e,_⟩,_⟩:=x;exact Heap.lt_size e
 | rng lo hi=>obtain⟨_,_,_,e⟩:=x;exact Heap.lt_size e
 | frz ob u=>obtain⟨e,_⟩:=x;exact Heap.lt_size e
 | tbl ps=>exact Heap.lt_size (show h.get? a=some _ from x)
 | met f y=>exact Heap.lt_size (show h.get? a=some _ from x)
 | ext φ=>obtain⟨_,⟨_,e⟩,_⟩:=x;exact Heap.lt_size e
theorem Paired.mapP {α β:Type}{F G:α->β->Prop}:∀{l₁:List α} {l₂:List β},Paired F l₁ l₂->(∀a b,F a b->G a b)->Paired G l₁ l₂
 | _,_,.nil,_=> .nil
 | _,_,.cons r t,f=> .cons (f _ _ r) (Paired.mapP t f)
theorem ObjOk.stay (x:ObjOk P w H h a o)(k:∀b u,(b=a\/H b=some (.own a))->h.get? b=some u->h'.get? b=some u)
  (ho:∀b,H b=some (.own a)->H' b=some (.own a)) (ht:∀b xs,H b=some (.tup xs)->H' b=some (.tup xs)):ObjOk P w H' h' a o:=by
 induction o with
 | lst xs=>obtain⟨z,its,n,r,e⟩:=x;exact⟨z,its,n,r,k _ _ (.inl rfl) e⟩
 | tup xs=>obtain⟨z,its,r,ob,e,c⟩:=x;exact⟨z,its,r,ob,k _ _ (.inl rfl) e,c⟩
 | dK kvs=>obtain⟨z,y,vs,r,ob,es,ep,e,c⟩:=x;exact⟨z,y,vs,r,ob,es,ep,k _ _ (.inl rfl) e,c⟩
 | dT kvs=>
  obtain⟨z,y,xs,r,ob,es,ep,e,c⟩:=x
  exact⟨z,y,xs,Paired.mapP r λp q z=>⟨z.1,ht _ _ z.2.1,z.2.2⟩,ob,es,ep,k _ _ (.inl rfl) e,c⟩
 | set S n=>obtain⟨ob,es,ep,t,e,c⟩:=x;exact⟨ob,es,ep,t,k _ _ (.inl rfl) e,c⟩
 | ins C dx fs=>
  obtain⟨d,z,ne,e,mA,⟨od,es,ep,e2,c⟩,r⟩:=x
  exact⟨ho _ d,z,ne,k _ _ (.inl rfl) e,mA,⟨od,es,ep,k _ _ (.inr d) e2,c⟩,r⟩
 | own y=>obtain⟨ob,e⟩:=x;exact⟨ob,k _ _ (.inl rfl) e⟩
 | xd fs=>obtain⟨mA,⟨od,es,ep,e,c⟩,r⟩:=x;exact⟨mA,⟨od,es,ep,k _ _ (.inl rfl) e,c⟩,r⟩
 | rng lo hi=>obtain⟨t,u,v,e⟩:=x;exact⟨t,u,v,k _ _ (.inl rfl) e⟩
 | frz ob u ih=>obtain⟨e,q⟩:=x;exact⟨k _ _ (.inl rfl) e,ih q⟩
 | tbl ps=>
  have e:h.get? a=some { cls:=.none,data:=.fields ps }:=x
  show h'.get? a=some { cls:=.none,data:=.fields ps }
  exact k a _ (.inl rfl) e
 | met f y=>
  have e:h.get? a=some (PySem.W.methodObj (.ref f) (.ref y)):=x
  show h'.get? a=some (PySem.W.methodObj (.ref f) (.ref y))
  exact k a _ (.inl rfl) e
 | ext φ=>obtain⟨p,⟨o,e⟩,st⟩:=x;exact⟨st _ _ p λo q=>k _ _ (.inl rfl) q,⟨o,k _ _ (.inl rfl) e⟩,st⟩
theorem HOk.lt (x:HOk P w H h)(e:H a=some o):a<h.objs.size:=(x a o e).lt
theorem HOk.fresh (x:HOk P w H h)(e:h.objs.size<=a):H a=none:=by
 cases q:H a with
 | none=>rfl
 | some u=>exact absurd (Nat.lt_of_lt_of_le (x.lt q) e) (Nat.lt_irrefl _)
theorem HOk.kept (x:HOk P w H h)(k:∀b u,h.get? b=some u->h'.get? b=some u):HOk P w H h':=λa o e=>
 (x a o e).stay (λb u _ q=>k b u q) (λ_ q=>q) λ_ _ q=>q
theorem HOk.laid (x:HOk P w H h)(k:∀b u,h.get? b=some u->h'.get? b=some u)(hp:h.objs.size<=a)(new:ObjOk P w (upd H a o) h' a o):HOk P w (upd H a o) h':=λb u e=>by
 have hn:=x.fresh hp
 by_cases hb:b=a
 ·subst hb;rw[aR]at e;cases e;exact new
 ·rw[aG hb]at e
  exact(x b u e).stay (λc v _ q=>k c v q) (λc q=>by rw[aG (bK q hn)];exact q) λc xs q=>by rw[aG (bK q hn)];exact q
end
def Rd (H:Hp)(a:Addr)(u:HO):Prop:=H a=some u\/∃o,H a=some (.frz o u)
theorem Rd.ok {P:Program}{w:World}{H:Hp}{h:Heap}{a:Addr}{u:HO}(r:Rd H a u)(x:HOk P w H h):ObjOk P w H h a u:=by
 rcases r with r | ⟨o,r⟩
 ·exact x a u r
 ·obtain⟨_,q⟩:=x a _ r
  exact q
def B5:Option HO->Prop
 | some (.lst _)=>True
 | some (.dK _)=>True
 | some (.dT _)=>True
 | some (.set _ _)=>True
 | some (.ins _ _ _)=>True
 | some (.ext _)=>True
 | _=>False
section
variable {P:Program}{w:World}{H:Hp}{h h':Heap}{x e:Addr}{o':HO}
theorem HOk.write (ok:HOk P w H h)(mu:B5 (H x))(he:e=x\/H e=some (.own x))(k:∀b u,b≠e->h.get? b=some u->h'.get? b=some u)(heo:∃u,h'.get? e=some u)
  (new:ObjOk P w (upd H x o') h' x o'):HOk P w (upd H x o') h':=λb u q=>by
 have nown:∀c y,H c=some (.own y)->c≠x:=λc y r z=>by subst z;rw[r]at mu;exact mu
 have ntup:∀c xs,H c=some (.tup xs)->c≠x:=λc xs r z=>by subst z;rw[r]at mu;exact mu
 by_cases hb:b=x
 ·subst hb;rw[aR]at q;cases q;exact new
 ·rw[aG hb]at q
  by_cases hbe:b=e
  ·have q':H b=some (.own x):=by
    rcases he with z | z
    ·exact absurd (hbe.trans z) hb
    ·rw[hbe];exact z
   rw[q]at q';cases q';obtain⟨v,hv⟩:=heo;exact⟨v,by rw[hbe];exact hv⟩
  ·refine(ok b u q).stay (λc v hc r=>k c v ?_ r) (λc r=>by rw[aG (nown c b r)];exact r) λc xs r=>by rw[aG (ntup c xs r)];exact r
   rcases hc with rfl | hc
   ·exact hbe
   ·rintro rfl
    rcases he with z | z
    ·exact nown c b hc z
    ·rw[hc]at z;cases z;exact hb rfl
end
structure Un (fs ex:List Addr)(H H':Hp)(h h':Heap):Prop where
 keep:∀b o,h.get? b=some o->H b=none->b∉fs->b∉ex->h'.get? b=some o
 slot:∀b o,h.get? b=some o->H b=none->b∈fs->b∉ex->∃sl,h'.get? b=some { o with slots:=sl }
 free:∀b o,h.get? b=some o->H b=none->b∉ex->H' b=none
 there:∀b o,h.get? b=some o->b∉ex->∃o',h'.get? b=some o'
 tups:∀b xs,H b=some (.tup xs)->H' b=some (.tup xs)
 frzs:∀b o u,H b=some (.frz o u)->H' b=some (.frz o u)
 tbls:∀b ps,H b=some (.tbl ps)->∃more,H' b=some (.tbl (ps++more))
section
variable {fs fs' ex ex':List Addr}{H H1 H2:Hp}{h h1 h2 h':Heap}{a x e:Addr}{o:HO}
theorem Un.any (u:Un fs ex H H1 h h1){b:Addr}{ob:Obj}(q:h.get? b=some ob)(n:H b=none)(hx:b∉ex):∃sl,h1.get? b=some { ob with slots:=sl }:=by
 by_cases hb:b∈fs
 ·exact u.slot b ob q n hb hx
 ·exact⟨ob.slots,u.keep b ob q n hb hx⟩
theorem Un.kept (k:∀b u,h.get? b=some u->h'.get? b=some u):Un fs ex H H h h':=
 ⟨λb ob q _ _ _=>k b ob q,λb ob q _ _ _=>⟨ob.slots,k b ob q⟩,λ_ _ _ n _=>n,λb ob q _=>⟨ob,k b ob q⟩,λ_ _ q=>q,λ_ _ _ q=>q,λ_ ps q=>⟨#[],by rw[q];simp⟩⟩
theorem Un.refl:Un fs ex H H h h:=Un.kept λ_ _ q=>q
theorem Un.laid (k:∀b u,h.get? b=some u->h'.get? b=some u)(hp:h.objs.size<=a)(hn:H a=none):Un fs ex H (upd H a o) h h' where
 keep:=λb u q _ _ _=>k b u q
 slot:=λb u q _ _ _=>⟨u.slots,k b u q⟩
 free:=λb u q n _=>by rw[aG (Nat.ne_of_lt (Nat.lt_of_lt_of_le (Heap.lt_size q) hp))];exact n
 there:=λb u q _=>⟨u,k b u q⟩
 tups:=λb xs q=>by rw[aG (bK q hn)];exact q
 frzs:=λb u xs q=>by rw[aG (bK q hn)];exact q
 tbls:=λb ps q=>⟨#[],by rw[aG (bK q hn),q];simp⟩
theorem Un.write (mu:B5 (H x))(he:e=x\/H e=some (.own x))(k:∀b u,b≠e->h.get? b=some u->h'.get? b=some u)(heo:∃u,h'.get? e=some u):Un fs ex H (upd H x o) h h':=by
 have hx:∀b,H b=none->b≠x:=λb n z=>by subst z;rw[n]at mu;exact mu
 have hb:∀b,H b=none->b≠e:=λb n z=>by
  subst z;rcases he with r | r
  ·exact hx b n r
  ·rw[n]at r;cases r
 have hm:∀b u,H b=some u->¬ B5 (some u)->b≠x:=λb u q nm z=>by subst z;rw[q]at mu;exact nm mu
 refine⟨λb u q n _ _=>k b u (hb b n) q,λb u q n _ _=>⟨u.slots,k b u (hb b n) q⟩,λb u q n _=>by rw[aG (hx b n)];exact n,λb u q _=> ?_,
  λb xs q=>by rw[aG (hm b _ q λz=>z)];exact q,λb u xs q=>by rw[aG (hm b _ q λz=>z)];exact q,λb ps q=>⟨#[],by rw[aG (hm b _ q λz=>z),q];simp⟩⟩
 by_cases hbe:b=e
 ·subst hbe;exact heo
 ·exact⟨u,k b u hbe q⟩
end
def trk (h:Heap)(H:Hp):List Addr:=(List.range h.objs.size).filter λa=>(H a).isSome
def ny (h:Heap)(H:Hp):Heap:=PySem.W.hideAll h (trk h H)
theorem sh (h:Heap)(H:Hp):(ny h H).objs.size=h.objs.size:=PySem.W.hideAll_size _ _
theorem uT {h:Heap}{H:Hp}{b:Addr}{o:Obj}(e:h.get? b=some o)(n:H b=none):(ny h H).get? b=some o:=
 PySem.W.hideAll_get _ e λhm=>by
  have q:(H b).isSome=true:=(List.mem_filter.mp hm).2;rw[n]at q;simp at q
theorem w4 {h:Heap}{H:Hp}{b:Addr}{o:Obj}(e:(ny h H).get? b=some o):h.get? b=some o/\H b=none:=by
 have e':h.get? b=some o:=PySem.W.of_hideAll (trk h H) e;refine⟨e',?_⟩
 cases q:H b with
 | none=>rfl
 | some x=>
  have hm:b∈trk h H:=List.mem_filter.mpr ⟨List.mem_range.mpr (Heap.lt_size e'),by simp[q]⟩
  have z:(ny h H).get? b=none:=PySem.W.hideAll_none (trk h H) hm;rw[z]at e;cases e
def xK (g h:Heap)(L:Addr):List (Addr×Obj):=(List.range h.objs.size).filterMap λa=>if a=L\/(g.get? a).isSome=true then none else(h.get? a).map λo=>(a,o)
def cv (g h:Heap)(L d:Addr):List (Addr×Obj):=(xK g h L).filter λp=>decide (p.1≠d)
structure Mod (K:PySem.W.Frag)(mg:Str->Option Value)(base:Heap):Prop where
 kin:K.In base
 glob:base.Ns mainGlobals mg
 blt:∃mb,base.Ns builtinsNs mb/\∀x:Str,x≠ "__name__"->mb x=bootBuiltins x
 nolimit:base.NoLimit
structure Cx where
 prog:Program
 w:World
 K:PySem.W.Frag
 mg:Str->Option Value
 base:Heap
 A:Around
 N:List Str
 s₀:Shared
 H₀:Hp
 env:Env
 outer:List Env
 stack:List Env
 ex:List Addr
 fn:Str->Bool
 calm:Bool
 pn:List (Addr×Obj)
 xe:Value->Shared->Prop
def nB (l:List Env):List Addr:=l.filterMap (·.frame)
abbrev Cx.fs (X:Cx):List Addr:=nB X.outer
def vt (sc:Scope)(x:Str):Prop:=sc.names.lookup x=some .local\/sc.names.lookup x=some .cell\/sc.names.lookup x=some .free
def Loc (sc:Scope)(x:Str):Prop:=sc.names.lookup x=some .local\/sc.names.lookup x=some .cell
def Look (env:Env)(h:Heap)(m:Str->Option Value)(x:Str)(u:Value):Prop:=
 (env.kindOf x=some .local/\m x=some u)\/((env.kindOf x=some .cell\/env.kindOf x=some .free)/\∃c,env.cells.lookup x=some c/\h.IsCell c (some u))
structure Cx.Ok (X:Cx):Prop where
 mod:Mod X.K X.mg X.base
 kind:X.env.scope.kind= .function
 glob:X.env.globals=mainGlobals
 blt:X.env.builtins=builtinsNs
 above:X.s₀.heap.objs.size<=X.env.locals
 inj:∀x y c,X.env.cells.lookup x=some c->X.env.cells.lookup y=some c->x=y
 has:∀x,(X.env.kindOf x=some .cell\/X.env.kindOf x=some .free)->∃c,X.env.cells.lookup x=some c
 cab:∀x c,X.fn x=true->X.env.cells.lookup x=some c->X.s₀.heap.objs.size<=c
 hd:X.calm=true->X.A.handled=none
 frames:X.A.frames=some X.stack
 stk:X.stack=X.outer\/(X.stack=X.env::X.outer/\X.env.frame=some X.env.locals)
 exf:∀b∈X.ex,b≠X.env.locals/\∀x c,X.env.cells.lookup x=some c->c≠b
 bs:∀b o,X.base.get? b=some o->X.s₀.heap.get? b=some o/\X.H₀ b=none
 bsz:X.base.objs.size<=X.s₀.heap.objs.size
 noex:∀b o,X.base.get? b=some o->b∉X.ex
 exfs:∀b∈X.ex,b∉X.fs
 funs:X.s₀.heap.FunFrames X.base X.outer
 frf:∀b∈X.fs,X.H₀ b=none
structure Inv (X:Cx)(pins:List (Addr×Obj))(σ:List (Option V))(H:Hp)(s:Shared):Prop where
 ok:X.Ok
 os:s.os=X.s₀.os
 bare:AllBare s.gens
 base:Un X.fs X.ex X.H₀ H X.s₀.heap s.heap
 loc:∃m,s.heap.Ns X.env.locals m/\∀(i:Nat) (x:Str) (v:V),X.N[i]? =some x->σ[i]? =some (some v)->vt X.env.scope x->∃u,RelV v u/\Look X.env s.heap m x u
 cell:∀x c,X.env.cells.lookup x=some c->∃v,s.heap.IsCell c v
 free:H X.env.locals=none
 freeC:∀x c,X.env.cells.lookup x=some c->H c=none
 pin:∀p∈X.pn++pins,s.heap.get? p.1=some p.2/\H p.1=none/\p.1≠X.env.locals/\p.1∉X.fs/\∀v,p.2.data≠ .cell v
 hok:HOk X.prog X.w H s.heap
 len:σ.length=X.N.length
section
variable {X:Cx}{pins:List (Addr×Obj)}{σ:List (Option V)}{H H':Hp}{s:Shared}{h':Heap}
theorem Cx.Ok.nofr (ok:X.Ok){b:Addr}{o:Obj}(e:X.base.get? b=some o):b∉X.fs:=λhb=>by
 have:=(ok.funs.mem hb).1;rw[e]at this;cases this
theorem Inv.bs (I:Inv X pins σ H s):∀b o,X.base.get? b=some o->s.heap.get? b=some o/\H b=none:=λb o e=>
 ⟨I.base.keep b o (I.ok.bs b o e).1 (I.ok.bs b o e).2 (I.ok.nofr e) (I.ok.noex b o e),I.base.free b o (I.ok.bs b o e).1 (I.ok.bs b o e).2 (I.ok.noex b o e)⟩
theorem Inv.bk (I:Inv X pins σ H s):∀b o,X.base.get? b=some o->s.heap.get? b=some o:=λb o e=>(I.bs b o e).1
theorem Inv.mod (I:Inv X pins σ H s):Mod X.K X.mg X.base:=I.ok.mod
theorem Inv.kIn (I:Inv X pins σ H s):X.K.In s.heap:=I.ok.mod.kin.keeps I.bk
theorem Inv.lt (I:Inv X pins σ H s):X.env.locals<s.heap.objs.size:=let ⟨_,hn,_⟩:=I.loc;hn.lt
theorem Inv.sz (I:Inv X pins σ H s):X.s₀.heap.objs.size<=s.heap.objs.size:=Nat.le_trans I.ok.above (Nat.le_of_lt I.lt)
theorem Inv.nofs (I:Inv X pins σ H s){a:Addr}(h:s.heap.objs.size<=a):a∉X.fs:=λhb=>by
 obtain⟨_,o,ho,_⟩:=I.ok.funs.mem hb;exact absurd (Nat.lt_of_lt_of_le (Heap.lt_size ho) (Nat.le_trans I.sz h)) (Nat.lt_irrefl _)
theorem Inv.cne (I:Inv X pins σ H s):∀x c,X.env.cells.lookup x=some c->c≠X.env.locals:=λx c e z=>by
 obtain⟨v,o,ho,hd⟩:=I.cell x c e;obtain⟨m,⟨o',es,ep,ho',hd',_⟩,_⟩:=I.loc;rw[z,ho']at ho;cases ho;rw[hd']at hd;cases hd
theorem Inv.funs (I:Inv X pins σ H s):s.heap.FunFrames X.base X.outer:=by
 have all:∀(l:List Env),(∀b∈nB l,b∈X.fs)->X.s₀.heap.FunFrames X.base l->s.heap.FunFrames X.base l:=by
  intro l
  induction l with
  | nil=>intro _ _;trivial
  | cons env r ih=>
   intro hs hl;obtain⟨hk,⟨L,o,hf,hn,ho,hd⟩,hr⟩:=hl
   have hL:L∈X.fs:=hs L (by unfold nB;rw[List.filterMap_cons,hf];exact List.mem_cons_self)
   obtain⟨sl,e⟩:=I.base.slot L o ho (I.ok.frf L hL) hL λz=>I.ok.exfs L z hL
   exact⟨hk,⟨L,_,hf,hn,e,hd⟩,ih (λb hb=>hs b (by unfold nB;rw[List.filterMap_cons,hf];exact List.mem_cons_of_mem _ hb)) hr⟩
 exact all X.outer (λ_ hb=>hb) I.ok.funs
theorem Inv.stack (I:Inv X pins σ H s):s.heap.FunFrames X.base X.stack:=by
 rcases I.ok.stk with e | ⟨e,hf⟩
 ·rw[e];exact I.funs
 ·rw[e]
  obtain⟨m,hn,_⟩:=I.loc;refine .cons (by rw[I.ok.kind];decide) hf hn ?_ I.funs
  exact Heap.get?_none_of_le (Nat.le_trans I.ok.bsz I.ok.above)
theorem Inv.stkSub (I:Inv X pins σ H s):∀b∈nB X.stack,b∈X.env.locals::X.fs:=λb hb=>by
 rcases I.ok.stk with e | ⟨e,hf⟩
 ·rw[e]at hb;exact List.mem_cons_of_mem _ hb
 ·rw[e]at hb
  unfold nB at hb;rw[List.filterMap_cons,hf]at hb;exact hb
theorem Inv.stkFree (I:Inv X pins σ H s):∀b∈nB X.stack,H b=none:=λb hb=>by
 rcases List.mem_cons.mp (I.stkSub b hb)with e | hb
 ·rw[e];exact I.free
 ·obtain⟨_,o,ho,_⟩:=I.ok.funs.mem hb
  exact I.base.free b o ho (I.ok.frf b hb) λz=>I.ok.exfs b z hb
theorem Inv.step {g':Array GenState}{t':Nat}{d':Drawn}{ch:List Addr}(I:Inv X pins σ H s)
  (hch:∀b∈ch,(b∈X.ex\/X.s₀.heap.objs.size<=b)/\b≠X.env.locals/\(∀x c,X.env.cells.lookup x=some c->c≠b)/\∀p∈X.pn++pins,p.1≠b)
  (keep:∀b o,b≠X.env.locals->b∉X.fs->b∉ch->s.heap.get? b=some o->H b=none->h'.get? b=some o)
  (slot:∀b o,b≠X.env.locals->b∈X.fs->b∉ch->s.heap.get? b=some o->H b=none->∃sl,h'.get? b=some { o with slots:=sl }) (free:∀b o,b∉ch->s.heap.get? b=some o->H b=none->H' b=none)
  (there:∀b o,b∉ch->s.heap.get? b=some o->∃o',h'.get? b=some o')
  (tups:∀b xs,H b=some (.tup xs)->H' b=some (.tup xs)) (frzs:∀b o u,H b=some (.frz o u)->H' b=some (.frz o u)) (tbls:∀b ps,H b=some (.tbl ps)->∃more,H' b=some (.tbl (ps++more)))
  (ns:∀m,s.heap.Ns X.env.locals m->h'.Ns X.env.locals m) (hok:HOk X.prog X.w H' h') (hg:AllBare g') :
  Inv X pins σ H' { s with heap:=h',gens:=g',drawn:=d',toks:=t' }:=by
 have neL:∀b o,X.s₀.heap.get? b=some o->b≠X.env.locals:=λb o e=>Nat.ne_of_lt (Nat.lt_of_lt_of_le (Heap.lt_size e) I.ok.above)
 have neC:∀b o,X.s₀.heap.get? b=some o->b∉X.ex->b∉ch:=λb o e hx hb=>by
  rcases(hch b hb).1 with z | z
  ·exact hx z
  ·exact absurd (Nat.lt_of_lt_of_le (Heap.lt_size e) z) (Nat.lt_irrefl _)
 have cellK:∀x c,X.env.cells.lookup x=some c->∀v,s.heap.IsCell c v->h'.IsCell c v:=λx c e v hh_=>by
  obtain⟨o,ho,hd⟩:=hh_
  have nch:c∉ch:=λz=>(hch c z).2.2.1 x c e rfl
  by_cases hc:c∈X.fs
  ·obtain⟨sl,q⟩:=slot c o (I.cne x c e) hc nch ho (I.freeC x c e)
   exact⟨_,q,hd⟩
  ·exact⟨o,keep c o (I.cne x c e) hc nch ho (I.freeC x c e),hd⟩
 refine⟨I.ok,I.os,hg,⟨λb o e n hb hx=> ?_,λb o e n hb hx=> ?_,λb o e n hx=> ?_,λb o e hx=> ?_,λb xs e=>tups b xs (I.base.tups b xs e),λb o xs e=>frzs b o xs (I.base.frzs b o xs e),λb ps e=> ?_⟩,?_,λx c e=> ?_,?_,λx c e=> ?_,λp hp=> ?_,hok,I.len⟩
 ·exact keep b o (neL b o e) hb (neC b o e hx) (I.base.keep b o e n hb hx) (I.base.free b o e n hx)
 ·obtain⟨sl,e1⟩:=I.base.slot b o e n hb hx
  obtain⟨sl',e2⟩:=slot b _ (neL b o e) hb (neC b o e hx) e1 (I.base.free b o e n hx);exact⟨sl',e2⟩
 ·obtain⟨o',e1⟩:=I.base.there b o e hx
  exact free b o' (neC b o e hx) e1 (I.base.free b o e n hx)
 ·obtain⟨o',e1⟩:=I.base.there b o e hx
  exact there b o' (neC b o e hx) e1
 ·obtain⟨m1,e1⟩:=I.base.tbls b ps e
  obtain⟨m2,e2⟩:=tbls b _ e1;exact⟨m1++m2,by rw[e2,Array.append_assoc]⟩
 ·obtain⟨m,hn,hl⟩:=I.loc
  refine⟨m,ns m hn,λi x v e1 e2 e3=> ?_⟩
  obtain⟨u,r,l⟩:=hl i x v e1 e2 e3;refine⟨u,r,?_⟩
  rcases l with l | ⟨k,c,e,z⟩
  ·exact .inl l
  ·exact .inr ⟨k,c,e,cellK x c e _ z⟩
 ·obtain⟨v,z⟩:=I.cell x c e
  exact⟨v,cellK x c e v z⟩
 ·obtain⟨m,⟨o,_,_,ho,_⟩,_⟩:=I.loc
  exact free _ o (λz=>(hch _ z).2.1 rfl) ho I.free
 ·obtain⟨v,o,ho,hd⟩:=I.cell x c e
  exact free c o (λz=>(hch c z).2.2.1 x c e rfl) ho (I.freeC x c e)
 ·obtain⟨e,n,ne,nf,d⟩:=I.pin p hp
  have nch:p.1∉ch:=λz=>(hch p.1 z).2.2.2 p hp rfl
  exact⟨keep p.1 p.2 ne nf nch e n,free p.1 p.2 nch e n,ne,nf,d⟩
theorem Inv.un {t':Nat}(I:Inv X pins σ H s)(u:Un X.fs [] H H' s.heap h')(hok:HOk X.prog X.w H' h'):Inv X pins σ H' { s with heap:=h',toks:=t' }:=by
 obtain⟨m,⟨o,es,ep,ho,r⟩,_⟩:=id I.loc;obtain⟨sl,hL⟩:=u.any ho I.free (by simp)
 exact I.step (g':=s.gens) (d':=s.drawn) (ch:=[]) (λ_ z=>nomatch z) (λb o _ hb _ e n=>u.keep b o e n hb (by simp)) (λb o _ hb _ e n=>u.slot b o e n hb (by simp)) (λb o _ e n=>u.free b o e n (by simp)) (λb o _ e=>u.there b o e (by simp)) u.tups u.frzs u.tbls (λm' hm=>by
  obtain⟨o',es',ep',ho',r'⟩:=hm;rw[ho]at ho';cases ho';exact⟨_,es',ep',hL,r'⟩) hok I.bare
theorem Inv.call {g':Array GenState}{t':Nat}{d':Drawn}{ch:List Addr}(I:Inv X pins σ H s)(u:Un (nB X.stack) ch H H' s.heap h')(hok:HOk X.prog X.w H' h')(hg:AllBare g')
  (hch:∀b∈ch,(b∈X.ex\/X.s₀.heap.objs.size<=b)/\b≠X.env.locals/\(∀x c,X.env.cells.lookup x=some c->c≠b)/\∀p∈X.pn++pins,p.1≠b) :
  Inv X pins σ H' { s with heap:=h',gens:=g',drawn:=d',toks:=t' }:=by
 obtain⟨m,⟨o,es,ep,ho,r⟩,_⟩:=id I.loc;obtain⟨sl,hL⟩:=u.any ho I.free λz=>(hch _ z).2.1 rfl
 exact I.step (ch:=ch) hch (λb o hL hb hc e n=>u.keep b o e n (λz=>(List.mem_cons.mp (I.stkSub b z)).elim hL hb) hc) (λb o _ _ hc e n=>u.any e n hc) (λb o hc e n=>u.free b o e n hc) (λb o hc e=>u.there b o e hc) u.tups u.frzs u.tbls (λm' hm=>by
  obtain⟨o',es',ep',ho',r'⟩:=hm;rw[ho]at ho';cases ho';exact⟨_,es',ep',hL,r'⟩) hok hg
theorem Inv.turned {t':Nat}{it:Addr}(I:Inv X pins σ H s)(k:∀b o,b≠it->s.heap.get? b=some o->h'.get? b=some o)(hn:H it=none)(hL:it≠X.env.locals)
  (h1:it∈X.ex\/X.s₀.heap.objs.size<=it) (h2:∀x c,X.env.cells.lookup x=some c->c≠it) (h3:∀p∈X.pn++pins,p.1≠it):Inv X pins σ H { s with heap:=h',toks:=t' }:=by
 have nit:∀b u,H b=some u->b≠it:=λb u e z=>by rw[z,hn]at e;cases e
 refine I.step (g':=s.gens) (d':=s.drawn) (ch:=[it]) (λb hb=> ?_) (λb o _ _ hc e _=>k b o (λz=>hc (by simp[z])) e) (λb o _ _ hc e _=>⟨o.slots,k b o (λz=>hc (by simp[z])) e⟩) (λ_ _ _ _ n=>n)
  (λb o hc e=>⟨o,k b o (λz=>hc (by simp[z])) e⟩) (λ_ _ e=>e) (λ_ _ _ e=>e) (λb ps e=>⟨#[],by rw[e];simp⟩) (λm hm=> ?_) (λb u e=> ?_) I.bare
 ·have e:b=it:=by simpa using hb
  subst e;exact⟨h1,hL,h2,h3⟩
 ·obtain⟨o,es,ep,ho,r⟩:=hm
  exact⟨o,es,ep,k _ o (Ne.symm hL) ho,r⟩
 ·refine(I.hok b u e).stay (λc v hc q=>k c v ?_ q) (λ_ q=>q) λ_ _ q=>q
  rcases hc with z | z
  ·rw[z];exact nit b u e
  ·exact nit c _ z
theorem Inv.tok (I:Inv X pins σ H s)(t:Nat):Inv X pins σ H { s with toks:=t }:=I.un (h':=s.heap) (t':=t) Un.refl I.hok
theorem Inv.kept {t':Nat}(I:Inv X pins σ H s)(k:∀b u,s.heap.get? b=some u->h'.get? b=some u):Inv X pins σ H { s with heap:=h',toks:=t' }:=I.un (Un.kept k) (I.hok.kept k)
theorem Inv.laid {a:Addr}{o:HO}{t':Nat}(I:Inv X pins σ H s)(k:∀b u,s.heap.get? b=some u->h'.get? b=some u)(hp:s.heap.objs.size<=a)(new:ObjOk X.prog X.w (upd H a o) h' a o) :
  Inv X pins σ (upd H a o) { s with heap:=h',toks:=t' }:=I.un (Un.laid k hp (I.hok.fresh hp)) (I.hok.laid k hp new)
theorem Inv.write {x e:Addr}{o:HO}{t':Nat}(I:Inv X pins σ H s)(mu:B5 (H x))(he:e=x\/H e=some (.own x))(k:∀b u,b≠e->s.heap.get? b=some u->h'.get? b=some u)(heo:∃u,h'.get? e=some u)
  (new:ObjOk X.prog X.w (upd H x o) h' x o):Inv X pins σ (upd H x o) { s with heap:=h',toks:=t' }:=I.un (Un.write mu he k heo) (I.hok.write mu he k heo new)
theorem Inv.pins_of {pins':List (Addr×Obj)}(I:Inv X pins σ H s)(h:∀p∈pins',s.heap.get? p.1=some p.2/\H p.1=none/\p.1≠X.env.locals/\p.1∉X.fs/\∀v,p.2.data≠ .cell v):Inv X pins' σ H s:=
 ⟨I.ok,I.os,I.bare,I.base,I.loc,I.cell,I.free,I.freeC,λp hp=>(List.mem_append.mp hp).elim (λz=>I.pin p (List.mem_append_left _ z)) (h p),I.hok,I.len⟩
theorem oQ {N:List Str}(hN:N.Nodup){i j:Nat}{x:Str}(a:N[i]? =some x)(b:N[j]? =some x):i=j:=by
 obtain⟨h1,e1⟩:=List.getElem?_eq_some_iff.mp a
 obtain⟨h2,e2⟩:=List.getElem?_eq_some_iff.mp b
 exact(List.getElem_inj hN).mp (e1.trans e2.symm)
theorem lQ {M:Model}{A:Around}{E:Value->Shared->Prop}{i:Nat}{x:Str}{v:V}{u:Value}{Q:Unit->Shared->Prop}(I:Inv X pins σ H s)(hN:X.N.Nodup)(hi:X.N[i]? =some x)(hx:Loc X.env.scope x)(r:RelV v u)
  (h:∀s',Inv X pins (σ.set i (some v)) H s'->(∃a,Heap.SameBut a s.heap s'.heap/\(a=X.env.locals\/X.env.cells.lookup x=some a))->Q () s') (hf:X.fn x=true\/X.env.scope.names.lookup x=some .local:=by first | exact .inl rfl | exact .inr rfl | assumption):wpAny M A (storeName X.env x u) Q E s:=by
 obtain⟨m,hn,hl⟩:=id I.loc
 have hcls:(X.env.scope.kind == .class||(X.env.scope.kind == .module&&X.env.locals != X.env.globals))=false:=by rw[I.ok.kind];rfl
 have hiσ:i<σ.length:=by rw[I.len];exact(List.getElem?_eq_some_iff.mp hi).1
 have cne:=I.cne
 have tracked:∀{a:Addr} {h':Heap},(∃o,s.heap.get? a=some o/\H a=none)->Heap.SameBut a s.heap h'->HOk X.prog X.w H h':=λ{a h'} ha hs b ob e=>by
  obtain⟨_,_,hfree⟩:=ha;refine(I.hok b ob e).stay (λc w' hc q=>(hs.2 c ?_).trans q) (λ_ q=>q) λ_ _ q=>q
  rintro rfl
  rcases hc with rfl | hc
  ·rw[hfree]at e;cases e
  ·rw[hfree]at hc;cases hc
 rcases hx with hk | hk
 ·refine wpAny_storeName_local hk hn (λh' hn' hs=> ?_) hcls
  obtain⟨oL,_,_,hoL,_⟩:=id hn;refine h _ ⟨I.ok,I.os,I.bare,⟨λb o e n hb hx=> ?_,λb o e n hb hx=> ?_,I.base.free,λb o e hx=> ?_,I.base.tups,I.base.frzs,I.base.tbls⟩,⟨_,hn',λj y v' e1 e2 e3=> ?_⟩,λy c e=> ?_,I.free,I.freeC,λp hp=> ?_,tracked ⟨oL,hoL,I.free⟩ hs,by simpa using I.len⟩ ⟨_,hs,.inl rfl⟩
  ·exact(hs.2 b (Nat.ne_of_lt (Nat.lt_of_lt_of_le (Heap.lt_size e) I.ok.above))).trans (I.base.keep b o e n hb hx)
  ·obtain⟨sl,e1⟩:=I.base.slot b o e n hb hx
   exact⟨sl,(hs.2 b (Nat.ne_of_lt (Nat.lt_of_lt_of_le (Heap.lt_size e) I.ok.above))).trans e1⟩
  ·obtain⟨o',e1⟩:=I.base.there b o e hx
   exact⟨o',(hs.2 b (Nat.ne_of_lt (Nat.lt_of_lt_of_le (Heap.lt_size e) I.ok.above))).trans e1⟩
  ·by_cases hj:j=i
   ·subst hj
    rw[hi]at e1;cases e1;rw[List.getElem?_set_self hiσ]at e2
    cases e2;exact⟨u,r,.inl ⟨hk,by simp⟩⟩
   ·rw[List.getElem?_set_ne (Ne.symm hj)]at e2
    obtain⟨u',r',q⟩:=hl j y v' e1 e2 e3;refine⟨u',r',?_⟩
    rcases q with⟨k,e⟩ | ⟨k,c,e,z⟩
    ·refine .inl ⟨k,?_⟩
     have:y≠x:=λe=>hj (oQ hN e1 (e▸hi))
     simp[this,e]
    ·exact .inr ⟨k,c,e,z.sameBut hs (cne y c e)⟩
  ·obtain⟨w',z⟩:=I.cell y c e
   exact⟨w',z.sameBut hs (cne y c e)⟩
  ·obtain⟨e,n,ne,nf,d⟩:=I.pin p hp
   exact⟨(hs.2 p.1 ne).trans e,n,ne,nf,d⟩
 ·have hfn:X.fn x=true:=by
   rcases hf with z | z
   ·exact z
   ·rw[z]at hk;cases hk
  obtain⟨c,hc⟩:=I.ok.has x (.inl hk);obtain⟨w',z⟩:=I.cell x c hc;refine wpAny_storeName_cell I.ok.kind hk hc z (λh' hc' hs=> ?_)
  obtain⟨oc,hoc,hocd⟩:=id z;refine h { s with heap:=h' } ⟨I.ok,I.os,I.bare,⟨λb o e n hb hx=> ?_,λb o e n hb hx=> ?_,I.base.free,λb o e hx=> ?_,I.base.tups,I.base.frzs,I.base.tbls⟩,⟨m,hn.sameBut hs (Ne.symm (cne x c hc)),λj y v' e1 e2 e3=> ?_⟩,λy c' e=> ?_,I.free,I.freeC,λp hp=> ?_,tracked ⟨oc,hoc,I.freeC x c hc⟩ hs,by simpa using I.len⟩ ⟨c,hs,.inr hc⟩
  ·exact(hs.2 b (Nat.ne_of_lt (Nat.lt_of_lt_of_le (Heap.lt_size e) (I.ok.cab x c hfn hc)))).trans (I.base.keep b o e n hb hx)
  ·obtain⟨sl,e1⟩:=I.base.slot b o e n hb hx
   exact⟨sl,(hs.2 b (Nat.ne_of_lt (Nat.lt_of_lt_of_le (Heap.lt_size e) (I.ok.cab x c hfn hc)))).trans e1⟩
  ·obtain⟨o',e1⟩:=I.base.there b o e hx
   exact⟨o',(hs.2 b (Nat.ne_of_lt (Nat.lt_of_lt_of_le (Heap.lt_size e) (I.ok.cab x c hfn hc)))).trans e1⟩
  ·by_cases hj:j=i
   ·subst hj
    rw[hi]at e1;cases e1;rw[List.getElem?_set_self hiσ]at e2
    cases e2;exact⟨u,r,.inr ⟨.inl hk,c,hc,hc'⟩⟩
   ·rw[List.getElem?_set_ne (Ne.symm hj)]at e2
    obtain⟨u',r',q⟩:=hl j y v' e1 e2 e3;refine⟨u',r',?_⟩
    rcases q with q | ⟨k,c',e,z'⟩
    ·exact .inl q
    ·refine .inr ⟨k,c',e,z'.sameBut hs ?_⟩
     rintro rfl
     exact hj (oQ hN e1 (I.ok.inj _ _ _ e hc▸hi))
  ·by_cases hcc:c'=c
   ·subst hcc;exact⟨_,hc'⟩
   ·obtain⟨w2,z2⟩:=I.cell y c' e
    exact⟨w2,z2.sameBut hs hcc⟩
  ·obtain⟨e,n,ne,nf,d⟩:=I.pin p hp
   refine⟨(hs.2 p.1 ?_).trans e,n,ne,nf,d⟩
   intro q;rw[q,hoc]at e
   have q':oc=p.2:=Option.some.inj e;exact d w' (by rw[<-q'];exact hocd)
theorem n8 {M:Model}{A:Around}{E:Value->Shared->Prop}{i:Nat}{x:Str}{v:V}{u:Value}{Q:Unit->Shared->Prop}(I:Inv X pins σ H s)(hN:X.N.Nodup)(hi:X.N[i]? =some x)(hx:Loc X.env.scope x)(r:RelV v u)
  (h:∀s',Inv X pins (σ.set i (some v)) H s'->Q () s') (hf:X.fn x=true\/X.env.scope.names.lookup x=some .local:=by first | exact .inl rfl | exact .inr rfl | assumption):wpAny M A (storeName X.env x u) Q E s:=
 lQ I hN hi hx r (λs' I' _=>h s' I') hf
theorem Inv.call' {s':Shared}{ch:List Addr}(I:Inv X pins σ H s)(ho:s'.os=s.os)(u:Un (nB X.stack) ch H H' s.heap s'.heap)(hok:HOk X.prog X.w H' s'.heap)(hg:AllBare s'.gens)
  (hch:∀b∈ch,(b∈X.ex\/X.s₀.heap.objs.size<=b)/\b≠X.env.locals/\(∀x c,X.env.cells.lookup x=some c->c≠b)/\∀p∈X.pn++pins,p.1≠b):Inv X pins σ H' s':=by
 obtain⟨h',g',d',t',o'⟩:=s'
 have e:o'=s.os:=ho;subst e;exact I.call (g':=g') (t':=t') (d':=d') u hok hg hch
end
abbrev XK:=Value->Option Addr->Hp->Prop
abbrev St:=List (Option V)
abbrev VK:=V->Hp->Prop
abbrev TE:=St->Hp->VK->Prop
abbrev TT:=St->Hp->(Bool->Hp->Prop)->Prop
abbrev TA:=St->Hp->(List V->Hp->Prop)->Prop
structure nT where
 nx:St->Hp->Prop
 rt:VK
 bk:St->Hp->Prop:=λ_ _=>False
 ct:St->Hp->Prop:=λ_ _=>False
abbrev TS:=nT->St->Hp->Prop
def EP (X:Cx)(pins:List (Addr×Obj))(σ:St)(Q:VK)(u:Value)(s':Shared):Prop:=∃v H',Inv X pins σ H' s'/\RelV v u/\Q v H'
def TP (X:Cx)(pins:List (Addr×Obj))(σ:St)(Q:Bool->Hp->Prop)(b:Bool)(s':Shared):Prop:=∃H',Inv X pins σ H' s'/\Q b H'
def AP (X:Cx)(pins:List (Addr×Obj))(σ:St)(Q:List V->Hp->Prop)(us:List Value)(s':Shared):Prop:=∃vs H',Inv X pins σ H' s'/\Vals vs us/\Q vs H'
def SP (X:Cx)(pins:List (Addr×Obj))(D:nT)(f:Flow)(s':Shared):Prop:=
 match f with
 | .next=> ∃σ' H',Inv X pins σ' H' s'/\D.nx σ' H'
 | .brk=> ∃σ' H',Inv X pins σ' H' s'/\D.bk σ' H'
 | .cont=> ∃σ' H',Inv X pins σ' H' s'/\D.ct σ' H'
 | .ret u=> ∃v σ' H',Inv X pins σ' H' s'/\RelV v u/\D.rt v H'
def PE (X:Cx)(e:Expr)(t:TE):Prop:=
 ∀(pins:List (Addr×Obj)) (s:Shared) (σ:St) (H:Hp) (Q:VK),Inv X pins σ H s->t σ H Q->wpAny (model X.prog X.w) X.A (eval e X.env) (EP X pins σ Q) X.xe s
def PT (X:Cx)(e:Expr)(t:TT):Prop:=
 ∀(pins:List (Addr×Obj)) (s:Shared) (σ:St) (H:Hp) (Q:Bool->Hp->Prop),Inv X pins σ H s->t σ H Q->wpAny (model X.prog X.w) X.A (isTrue e X.env (eval e X.env)) (TP X pins σ Q) X.xe s
def PW (X:Cx)(e:Expr)(t:TT):Prop:=
 ∀(whole:Sem Value) (pins:List (Addr×Obj)) (s:Shared) (σ:St) (H:Hp) (Q:Bool->Hp->Prop),Inv X pins σ H s->t σ H Q->wpAny (model X.prog X.w) X.A (isTrue e X.env whole) (TP X pins σ Q) X.xe s
theorem PW.pt {X:Cx}{e:Expr}{t:TT}(h:PW X e t):PT X e t:=h _
def PA (X:Cx)(es:List Expr)(t:TA):Prop:=
 ∀(pos:Pos) (pins:List (Addr×Obj)) (s:Shared) (σ:St) (H:Hp) (Q:List V->Hp->Prop),Inv X pins σ H s->t σ H Q->wpAny (model X.prog X.w) X.A (spliced (backTo pos (starEach es X.env))) (AP X pins σ Q) X.xe s
def PS (X:Cx)(st:Stmt)(t:TS):Prop:=
 ∀(pins:List (Addr×Obj)) (s:Shared) (σ:St) (H:Hp) (D:nT),Inv X pins σ H s->t D σ H->wpAny (model X.prog X.w) X.A (exec st X.env) (SP X pins D) X.xe s
def PSs (X:Cx)(st:List Stmt)(t:TS):Prop:=
 ∀(pins:List (Addr×Obj)) (s:Shared) (σ:St) (H:Hp) (D:nT),Inv X pins σ H s->t D σ H->wpAny (model X.prog X.w) X.A (execs st X.env) (SP X pins D) X.xe s
theorem cf {α:Type}{t:Sem α}{Q Q':α->Shared->Prop}{M:Model}{A:Around}{E:Value->Shared->Prop}{s:Shared}(h:wpAny M A t Q E s)(hQ:∀a s,Q a s->Q' a s):wpAny M A t Q' E s:=wpAny_mono h hQ λ_ _ x=>x
section
variable {X:Cx}
def tVar (i:Nat):TE:=λσ H Q=> ∃v,σ[i]? =some (some v)/\Q v H
def tC (v:V):TE:=λ_ H Q=>Q v H
theorem mZ {i:Nat}{x:Str}{pos:Pos}(hN:X.N[i]? =some x)(hv:vt X.env.scope x)(hd:(x == ("__debug__" : Str))=false:=by decide)(hcd:(x == ("__classdict__" : Str))=false:=by decide):PE X (.Name x pos) (tVar i):=by
 intro pins s σ H Q I h;obtain⟨v,e,h⟩:=h;obtain⟨m,hn,hl⟩:=I.loc;obtain⟨u,r,l⟩:=hl i x v hN e hv
 have fin:EP X pins σ Q u s:=⟨v,H,I,r,h⟩;rcases l with⟨hk,hm⟩ | ⟨hk,c,hc,hcell⟩
 ·exact wpAny_Name (wpAny_loadName_local I.ok.kind hk hn hm fin) hd
 ·rcases hk with hk | hk
  ·exact wpAny_Name (wpAny_loadName_cell I.ok.kind hk hc hcell fin) hd
  ·exact wpAny_Name (wpAny_loadName_free I.ok.kind hk hc hcell fin hcd) hd
theorem tW {i j pos}:PE X (.Constant (.int i) j pos) (tC (.int i)):=λ_ _ _ H _ I h=>wpAny_Constant_int ⟨.int i,H,I.tok _,⟨_,rfl⟩,h⟩
theorem Bg {b j pos}:PE X (.Constant (.bool b) j pos) (tC (.bl b)):=λ_ _ _ H _ I h=>Constant_bool ⟨.bl b,H,I,rfl,h⟩
theorem zk {j pos}:PE X (.Constant .none j pos) (tC .non):=λ_ _ _ H _ I h=>Constant_none ⟨.non,H,I,rfl,h⟩
def Gl (X:Cx)(x:Str):Prop:=X.env.kindOf x=some .globalImplicit
theorem kh {E:Value->Shared->Prop}{pins:List (Addr×Obj)}{s:Shared}{σ:St}{H:Hp}{x:Str}{u:Value}{pos:Pos}{Q:Value->Shared->Prop}(I:Inv X pins σ H s)(hg:Gl X x)(hm:X.mg x=some u)(h:Q u s)
  (hd:(x == ("__debug__" : Str))=false:=by decide):wpAny (model X.prog X.w) X.A (eval (.Name x pos) X.env) Q E s:=
 Calls.Name_function_global I.ok.kind hg (Calls.loadGlobal_global (by rw[I.ok.glob];exact I.mod.glob.keeps I.bk) hm h) hd
theorem fq {E:Value->Shared->Prop}{pins:List (Addr×Obj)}{s:Shared}{σ:St}{H:Hp}{x:Str}{u:Value}{pos:Pos}{Q:Value->Shared->Prop}(I:Inv X pins σ H s)(hg:Gl X x)(hm:X.mg x=none)(hv:bootBuiltins x=some u)(h:Q u s)
  (hn:x≠ "__name__":=by decide) (hd:(x == ("__debug__" : Str))=false:=by decide):wpAny (model X.prog X.w) X.A (eval (.Name x pos) X.env) Q E s:=by
 obtain⟨mb,h1,h2⟩:=I.mod.blt;exact Calls.Name_function_global I.ok.kind hg (Calls.loadGlobal_builtin (by rw[I.ok.glob];exact I.mod.glob.keeps I.bk) hm (by rw[I.ok.blt];exact h1.keeps I.bk) ((h2 x hn).trans hv) h) hd
theorem wS {x:Str}{v:V}{u:Value}{pos:Pos}(hg:Gl X x)(hm:X.mg x=some u)(r:RelV v u)(hd:(x == ("__debug__" : Str))=false:=by decide):PE X (.Name x pos) (tC v):=
 λ_ _ _ H _ I h=>kh I hg hm ⟨v,H,I,r,h⟩ hd
theorem wU {x:Str}{v:V}{u:Value}{pos:Pos}(hg:Gl X x)(hm:X.mg x=none)(hv:bootBuiltins x=some u)(r:RelV v u)(hn:x≠ "__name__":=by decide)(hd:(x == ("__debug__" : Str))=false:=by decide):PE X (.Name x pos) (tC v):=
 λ_ _ _ H _ I h=>fq I hg hm hv ⟨v,H,I,r,h⟩ hn hd
variable {a b:Expr}{ta tb:TE}{pos:Pos}
def tB (t:TE):TT:=λσ H Q=>t σ H λx H1=> ∃c,x= .bl c/\Q c H1
theorem za {e:Expr}{t:TE}(h:PE X e t)(he:∀whole,isTrue e X.env whole=(do let v <-whole;standAt e.pos;holding [v] (truthy v)):=by intro _;rfl):PT X e (tB t):=by
 intro pins s σ H Q I hw;refine isTrue_plain (cf (h pins s σ H _ I hw) λv s1 ⟨x,H1,I1,r1,q1⟩=> ?_) (he _)
 obtain⟨d,rfl,q⟩:=q1;cases r1;exact wpAny_truthy_bool ⟨H1,I1,q⟩
variable {tA tB':TT}{cv:List Expr}
def tAnd (t u:TT):TT:=λσ H Q=>t σ H λc H1=>if c=true then u σ H1 Q else Q false H1
def tOr (t u:TT):TT:=λσ H Q=>t σ H λc H1=>if c=true then Q true H1 else u σ H1 Q
def tNot (t:TT):TT:=λσ H Q=>t σ H λc H1=>Q (!c) H1
theorem wC (ha:PT X a tA):PW X (.BoolOp .And [a] pos) tA:=by
 intro wh pins s σ H Q I h;refine isTrue_and (cf (ha pins s σ H Q I h) λc s1 e=> ?_)
 cases c with
 | true=>exact isTrue_and_nil e
 | false=>exact e
theorem y8 (ha:PT X a tA):PW X (.BoolOp .Or [a] pos) tA:=by
 intro wh pins s σ H Q I h;refine isTrue_or (cf (ha pins s σ H Q I h) λc s1 e=> ?_)
 cases c with
 | false=>exact isTrue_or_nil e
 | true=>exact e
theorem y9 (ha:PT X a tA)(hb:PW X (.BoolOp .And (b::cv) pos) tB'):PW X (.BoolOp .And (a::b::cv) pos) (tAnd tA tB'):=by
 intro wh pins s σ H Q I h;refine isTrue_and (cf (ha pins s σ H _ I h) λc s1 hh_=> ?_)
 obtain⟨H1,I1,q1⟩:=hh_
 cases c with
 | true=>exact hb wh pins s1 σ H1 Q I1 q1
 | false=>exact⟨H1,I1,q1⟩
theorem Bc (ha:PT X a tA)(hb:PW X (.BoolOp .Or (b::cv) pos) tB'):PW X (.BoolOp .Or (a::b::cv) pos) (tOr tA tB'):=by
 intro wh pins s σ H Q I h;refine isTrue_or (cf (ha pins s σ H _ I h) λc s1 hh_=> ?_)
 obtain⟨H1,I1,q1⟩:=hh_
 cases c with
 | true=>exact⟨H1,I1,q1⟩
 | false=>exact hb wh pins s1 σ H1 Q I1 q1
theorem zc (ha:PT X a tA):PT X (.UnaryOp .Not a pos) (tNot tA):=by
 intro pins s σ H Q I h;exact isTrue_not (ha pins s σ H (λc H1=>Q (!c) H1) I h)
def AM (ta tb:TE):TE:=λσ H Q=>ta σ H λx H1=> ∃c,x= .bl c/\if c=true then tb σ H1 Q else Q (.bl false) H1
def tOrV (ta tb:TE):TE:=λσ H Q=>ta σ H λx H1=> ∃c,x= .bl c/\if c=true then Q (.bl true) H1 else tb σ H1 Q
def AD (ta:TE):TE:=λσ H Q=>ta σ H λx H1=> ∃c,x= .bl c/\Q (.bl (!c)) H1
theorem zi {op}{t:TE}(h:PE X a t):PE X (.BoolOp op [a] pos) t:=λpins s σ H Q I hw=>BoolOp_one (h pins s σ H Q I hw)
theorem zm (ha:PE X a ta)(hb:PE X (.BoolOp .And (b::cv) pos) tb):PE X (.BoolOp .And (a::b::cv) pos) (AM ta tb):=by
 intro pins s σ H Q I h;refine BoolOp_and (cf (ha pins s σ H _ I h) λv s1 hh_=> ?_)
 obtain⟨x,H1,I1,r1,q1⟩:=hh_;obtain⟨c,rfl,q1⟩:=q1;cases r1;refine wpAny_truthy_bool ?_
 cases c with
 | true=>exact hb pins s1 σ H1 Q I1 q1
 | false=>exact⟨.bl false,H1,I1,rfl,q1⟩
theorem Bf (ha:PE X a ta)(hb:PE X (.BoolOp .Or (b::cv) pos) tb):PE X (.BoolOp .Or (a::b::cv) pos) (tOrV ta tb):=by
 intro pins s σ H Q I h;refine BoolOp_or (cf (ha pins s σ H _ I h) λv s1 hh_=> ?_)
 obtain⟨x,H1,I1,r1,q1⟩:=hh_;obtain⟨c,rfl,q1⟩:=q1;cases r1;refine wpAny_truthy_bool ?_
 cases c with
 | false=>exact hb pins s1 σ H1 Q I1 q1
 | true=>exact⟨.bl true,H1,I1,rfl,q1⟩
theorem zj (ha:PE X a ta):PE X (.UnaryOp .Not a pos) (AD ta):=by
 intro pins s σ H Q I h;refine UnaryOp_ (cf (ha pins s σ H _ I h) λv s1 hh_=> ?_)
 obtain⟨x,H1,I1,r1,q1⟩:=hh_;obtain⟨c,rfl,q1⟩:=q1;cases r1;exact not_of (wpAny_truthy_bool ⟨.bl (!c),H1,I1,rfl,q1⟩)
def tIf (t:TT)(ta tb:TE):TE:=λσ H Q=>t σ H λc H1=>if c=true then ta σ H1 Q else tb σ H1 Q
theorem tX {c:Expr}(hc:PT X c tA)(ha:PE X a ta)(hb:PE X b tb):PE X (.IfExp c a b pos) (tIf tA ta tb):=by
 intro pins s σ H Q I h;refine wpAny_IfExp (cf (hc pins s σ H _ I h) λd s1 hh_=> ?_)
 obtain⟨H1,I1,q1⟩:=hh_
 cases d with
 | true=>exact ha pins s1 σ H1 Q I1 q1
 | false=>exact hb pins s1 σ H1 Q I1 q1
end
def SqL (K:PySem.W.Frag)(H:Hp)(a:Addr)(xs:List V):Prop:=
 Rd H a (.lst xs) ∨
  ∃(o:Obj) (its:Array Value) (n:Nat),K.lookup a=some o/\o.cls= .type "list"/\o.dict=none/\o.data= .seq its n/\its.size<=sizeLine/\Vals xs its.toList
def SqT (K:PySem.W.Frag)(H:Hp)(a:Addr)(xs:List V):Prop:=
 Rd H a (.tup xs) ∨
  ∃(o:Obj) (its:Array Value) (n:Nat),K.lookup a=some o/\o.cls= .type "tuple"/\o.data= .seq its n/\its.size<=sizeLine/\Vals xs its.toList
def absV:Value->Option V
 | .none=>some .non
 | .bool b=>some (.bl b)
 | .int i _=>some (.int i)
 | .str x _=>some (.str x)
 | .bytes b _=>some (.byt b)
 | .float b _=>some (.flt b)
 | .ref a=>some (.ref a)
 | .type n=>some (.ty n)
 | _=>none
theorem RelV.abs {x:V}{u:Value}(r:RelV x u):absV u=some x:=by
 cases x with
 | non=>cases r;rfl
 | bl _=>cases r;rfl
 | int _=>obtain⟨t,rfl⟩:=r;rfl
 | str _=>obtain⟨t,rfl⟩:=r;rfl
 | byt _=>obtain⟨t,rfl⟩:=r;rfl
 | flt _=>obtain⟨t,rfl⟩:=r;rfl
 | ref _=>cases r;rfl
 | ty _=>cases r;rfl
theorem RelV.inj {x y:V}{u:Value}(r:RelV x u)(q:RelV y u):x=y:=Option.some.inj (r.abs.symm.trans q.abs)
theorem Vals.inj:∀{xs ys:List V} {us:List Value},Vals xs us->Vals ys us->xs=ys
 | _,_,_,.nil,.nil=>rfl
 | _,_,_,.cons r t,.cons r' t'=>by rw[r.inj r',Vals.inj t t']
section
variable {X:Cx}{pins:List (Addr×Obj)}{σ:St}{H:Hp}{s:Shared}{a:Addr}{xs ys:List V}
theorem SqL.of {K:PySem.W.Frag}(h:H a=some (.lst xs)):SqL K H a xs:=.inl (.inl h)
theorem SqT.of {K:PySem.W.Frag}(h:H a=some (.tup xs)):SqT K H a xs:=.inl (.inl h)
theorem Inv.list (I:Inv X pins σ H s)(h:SqL X.K H a xs):∃its:List Value,Vals xs its/\PlainL s.heap a its.toArray/\xs.length<=sizeLine:=by
 rcases h with h | ⟨o,its,n,hk,hc,hd,hs,hz,r⟩
 ·obtain⟨z,its,n,r,e⟩:=h.ok I.hok
  exact⟨its,r,⟨_,n,e,rfl,rfl,rfl⟩,z⟩
 ·refine⟨its.toList,r,⟨o,n,I.kIn a o hk,hc,hd,by simpa using hs⟩,?_⟩
  have e:=r.length;simp only[Array.length_toList]at e;omega
theorem Inv.tuple (I:Inv X pins σ H s)(h:SqT X.K H a xs):∃its:List Value,Vals xs its/\IsTup s.heap a its.toArray/\xs.length<=sizeLine:=by
 rcases h with h | ⟨o,its,n,hk,hc,hs,hz,r⟩
 ·obtain⟨z,its,r,p⟩:=h.ok I.hok
  exact⟨its,r,p,z⟩
 ·refine⟨its.toList,r,⟨o,I.kIn a o hk,hc,n,by simpa using hs⟩,?_⟩
  have e:=r.length;simp only[Array.length_toList]at e;omega
theorem Inv.list_inj (I:Inv X pins σ H s)(h:SqL X.K H a xs)(h':SqL X.K H a ys):xs=ys:=by
 obtain⟨its,r,⟨o,n,e,_,_,d⟩,_⟩:=I.list h;obtain⟨its',r',⟨o',n',e',_,_,d'⟩,_⟩:=I.list h';rw[e]at e';cases e';rw[d]at d';injection d' with d1 _
 have:its=its':=by simpa using congrArg Array.toList d1
 subst this;exact r.inj r'
theorem Inv.tuple_inj (I:Inv X pins σ H s)(h:SqT X.K H a xs)(h':SqT X.K H a ys):xs=ys:=by
 obtain⟨its,r,⟨o,e,_,n,d⟩,_⟩:=I.tuple h;obtain⟨its',r',⟨o',e',_,n',d'⟩,_⟩:=I.tuple h';rw[e]at e';cases e';rw[d]at d';injection d' with d1 _
 have:its=its':=by simpa using congrArg Array.toList d1
 subst this;exact r.inj r'
end
abbrev Cx.wish (X:Cx)(E:Value->Shared->Prop):Cx:={ X with xe:=E }
abbrev Cx.nox (X:Cx):Cx:=X.wish λ_ _=>False
theorem Cx.Ok.wish {X:Cx}(ok:X.Ok)(E:Value->Shared->Prop):(X.wish E).Ok:=
 ⟨ok.mod,ok.kind,ok.glob,ok.blt,ok.above,ok.inj,ok.has,ok.cab,ok.hd,ok.frames,ok.stk,ok.exf,ok.bs,ok.bsz,ok.noex,ok.exfs,ok.funs,ok.frf⟩
theorem Cx.Ok.unwish {X:Cx}{E:Value->Shared->Prop}(ok:(X.wish E).Ok):X.Ok:=
 ⟨ok.mod,ok.kind,ok.glob,ok.blt,ok.above,ok.inj,ok.has,ok.cab,ok.hd,ok.frames,ok.stk,ok.exf,ok.bs,ok.bsz,ok.noex,ok.exfs,ok.funs,ok.frf⟩
section
variable {X:Cx}{pins:List (Addr×Obj)}{σ:St}{H:Hp}{s:Shared}{E:Value->Shared->Prop}
theorem Inv.wish (I:Inv X pins σ H s)(E:Value->Shared->Prop):Inv (X.wish E) pins σ H s:=⟨I.ok.wish E,I.os,I.bare,I.base,I.loc,I.cell,I.free,I.freeC,I.pin,I.hok,I.len⟩
theorem Inv.unwish (I:Inv (X.wish E) pins σ H s):Inv X pins σ H s:=⟨I.ok.unwish,I.os,I.bare,I.base,I.loc,I.cell,I.free,I.freeC,I.pin,I.hok,I.len⟩
theorem SP.unwish {D:nT}{f:Flow}{s':Shared}(h:SP (X.wish E) pins D f s'):SP X pins D f s':=by
 cases f with
 | next=>obtain⟨σ',H',I,q⟩:=h;exact⟨σ',H',I.unwish,q⟩
 | brk=>obtain⟨σ',H',I,q⟩:=h;exact⟨σ',H',I.unwish,q⟩
 | cont=>obtain⟨σ',H',I,q⟩:=h;exact⟨σ',H',I.unwish,q⟩
 | ret u=>obtain⟨v,σ',H',I,r,q⟩:=h;exact⟨v,σ',H',I.unwish,r,q⟩
theorem PSs.nox {st:List Stmt}{t:TS}(h:PSs X.nox st t):PSs X st t:=λpins s σ H D I hw=>
 wpAny_mono (h pins s σ H D (I.wish _) hw) (λ_ _ q=>q.unwish) λ_ _ z=>False.elim z
end
section
variable {X:Cx}{st:Stmt}{cv:List Stmt}{t u:TS}{e:Expr}{te:TE}{pos:Pos}
def AF:TS:=λD σ H=>D.nx σ H
def tSeq (t u:TS):TS:=λD σ H=>t { D with nx:=u D } σ H
theorem wG:PSs X [] AF:=λ_ _ σ H _ I h=>wpAny_execs_nil ⟨σ,H,I,h⟩
theorem tM (h1:PS X st t)(h2:PSs X cv u):PSs X (st::cv) (tSeq t u):=by
 intro pins s σ H D I h;refine wpAny_execs_cons (cf (h1 pins s σ H { D with nx:=u D } I h) λf s1 q=> ?_)
 cases f with
 | next=>
  obtain⟨σ',H',I',q⟩:=q
  exact h2 pins s1 σ' H' D I' q
 | ret v=>exact q
 | brk=>exact q
 | cont=>exact q
theorem wE (h1:PS X st t):PSs X [st] t:=by
 intro pins s σ H D I h;refine wpAny_execs_cons (cf (h1 pins s σ H D I h) λf s1 q=> ?_)
 cases f with
 | next=>exact wpAny_execs_nil q
 | ret v=>exact q
 | brk=>exact q
 | cont=>exact q
def AK:TS:=λD σ H=>D.ct σ H
theorem oE:PS X (.Continue pos) AK:=λ_ _ σ H _ I h=>wpAny_Continue ⟨σ,H,I,h⟩
theorem Inv.quiet {pins:List (Addr×Obj)}{σ:St}{H:Hp}{s:Shared}(I:Inv X pins σ H s):interactive X.env=false:=by simp[interactive,I.ok.kind]
def AI (te:TE):TS:=λD σ H=>te σ H λ_ H1=>D.nx σ H1
theorem mY (he:PE X e te)(hs:swapsWith e none pos.line X.env=pure false:=by rfl):PS X (.Expr e pos) (AI te):=by
 intro pins s σ H D I h;exact wpAny_Expr_any (cf (he pins s σ H _ I h) λv s1 ⟨x,H1,I1,r1,q1⟩=>⟨σ,H1,I1,q1⟩) I.quiet hs
def tRet (te:TE):TS:=λD σ H=>te σ H D.rt
theorem zd (he:PE X e te):PS X (.Return (some e) pos) (tRet te):=by
 intro pins s σ H D I h;exact wpAny_Return_some (cf (he pins s σ H _ I h) λv s1 ⟨x,H1,I1,r1,q1⟩=>⟨x,σ,H1,I1,r1,q1⟩)
def tIfS (c:TT)(t u:TS):TS:=λD σ H=>c σ H λb H1=>if b=true then t D σ H1 else u D σ H1
theorem Be {c:Expr}{a b:List Stmt}{tc:TT}(hc:PT X c tc)(ha:PSs X a t)(hb:PSs X b u):PS X (.If c a b pos) (tIfS tc t u):=by
 intro pins s σ H D I h;refine wpAny_If (cf (hc pins s σ H _ I h) λd s1 hh_=> ?_)
 obtain⟨H1,I1,q1⟩:=hh_
 cases d with
 | true=>exact ha pins s1 σ H1 D I1 q1
 | false=>exact hb pins s1 σ H1 D I1 q1
end
abbrev TG:=V->St->Hp->(St->Hp->Prop)->Prop
abbrev xM:=List V->St->Hp->(St->Hp->Prop)->Prop
def PG (X:Cx)(target:Expr)(t:TG):Prop:=
 ∀(pins:List (Addr×Obj)) (s:Shared) (σ:St) (H:Hp) (v:V) (u:Value) (Q:St->Hp->Prop),Inv X pins σ H s->RelV v u->t v σ H Q →
  wpAny (model X.prog X.w) X.A (assign target X.env u) (λ_ s'=> ∃σ' H',Inv X pins σ' H' s'/\Q σ' H') X.xe s
def PGs (X:Cx)(ts:List Expr)(t:xM):Prop:=
 ∀(pins:List (Addr×Obj)) (s:Shared) (σ:St) (H:Hp) (vs:List V) (us:List Value) (Q:St->Hp->Prop),Inv X pins σ H s->Vals vs us->t vs σ H Q →
  wpAny (model X.prog X.w) X.A (assignInOrder ((assignEach ts X.env).map (·.2)) us) (λ_ s'=> ∃σ' H',Inv X pins σ' H' s'/\Q σ' H') X.xe s
section
variable {X:Cx}{pos:Pos}
def uW (i:Nat):TG:=λv σ H Q=>Q (σ.set i (some v)) H
theorem wQ {i:Nat}{x:Str}(hN:X.N.Nodup)(hi:X.N[i]? =some x)(hx:Loc X.env.scope x)(hf:X.fn x=true\/X.env.scope.names.lookup x=some .local:=by first | exact .inl rfl | exact .inr rfl | assumption):PG X (.Name x pos) (uW i):=by
 intro pins s σ H v u Q I r h;exact wpAny_assign_Name (n8 I hN hi hx r (λs' I'=>⟨_,H,I',h⟩) hf)
def gNil:xM:=λvs σ H Q=>vs= []/\Q σ H
def BK (t:TG)(u:xM):xM:=λvs σ H Q=> ∃v r,vs=v::r/\t v σ H λσ' H'=>u r σ' H' Q
theorem wP:PGs X [] gNil:=by
 intro pins s σ H vs us Q I r h;obtain⟨e,h⟩:=h;subst e;cases r;exact assignInOrder_nil ⟨σ,H,I,h⟩
theorem tT {e:Expr}{es:List Expr}{t:TG}{u:xM}(h1:PG X e t)(h2:PGs X es u)
  (hs:(assignEach (e::es) X.env).map (·.2)=assign e X.env::(assignEach es X.env).map (·.2):=by rfl):PGs X (e::es) (BK t u):=by
 intro pins s σ H vs us Q I r h;obtain⟨v,vr,e1,h⟩:=h;subst e1
 cases r with
 | cons r rr=>
  rw[hs];refine assignInOrder_cons (cf (h1 pins s σ H _ _ _ I r h) λ_ s1 hh_=> ?_)
  obtain⟨σ1,H1,I1,q1⟩:=hh_;exact h2 pins s1 σ1 H1 _ _ Q I1 rr q1
def gTup (K:PySem.W.Frag)(n:Nat)(t:xM):TG:=λv σ H Q=> ∃a xs,v= .ref a/\SqT K H a xs/\xs.length=n/\t xs σ H Q
theorem zg {es:List Expr}{k:Nat}{t:xM}{n:Nat}(hc:X.calm=true)(h:PGs X es t)
  (hn:(assignEach es X.env).length=n:=by rfl) (hst:(assignEach es X.env).findIdx? (·.1)=none:=by rfl):PG X (.Tuple es k pos) (gTup X.K n t):=by
 intro pins s σ H v u Q I r hw;obtain⟨a,xs,e1,hq,hl,hw⟩:=hw;subst e1;cases r;obtain⟨its,rv,ht,hz⟩:=I.tuple hq;refine assign_Tuple_tuple (I.ok.hd hc) ht (by simp[hn,<-hl,rv.length]) hst λh' hx=> ?_
 have I1:Inv X pins σ H { s with heap:=h' }:=I.kept (t':=s.toks) λb o e=>hx b o (Nat.ne_of_lt (Heap.lt_size e)) e
 exact h pins _ σ H xs _ Q I1 (by simpa using rv) hw
def vW (te:TE)(g:TG):TS:=λD σ H=>te σ H λx H1=>g x σ H1 D.nx
theorem ze {tg e:Expr}{te:TE}{g:TG}(he:PE X e te)(hg:PG X tg g)(hs:swapsWithSole [tg] e pos.line X.env=pure false:=by rfl)(hw:swappedStores [tg] e X.env=pure none:=by rfl)
  (h1:(assignEach [tg] X.env).map (·.2)= [assign tg X.env]:=by rfl):PS X (.Assign [tg] e pos) (vW te g):=by
 intro pins s σ H D I h;refine wpAny_Assign_stores (cf (he pins s σ H _ I h) λv s1 ⟨x,H1,I1,r1,q1⟩=> ?_) hs hw
 rw[h1];exact cf (hg pins s1 σ H1 x v _ I1 r1 q1) λ_ s2 q=>q
theorem tO {i:Nat}{x:Str}{e:Expr}{te:TE}{pos':Pos}(hN:X.N.Nodup)(hi:X.N[i]? =some x)(hx:Loc X.env.scope x)(he:PE X e te)(hs:swapsWith e (some (.Name x pos')) pos.line X.env=pure false:=by rfl)(hf:X.fn x=true\/X.env.scope.names.lookup x=some .local:=by first | exact .inl rfl | exact .inr rfl | assumption) :
  PS X (.Assign [.Name x pos'] e pos) (vW te (uW i)):=by
 intro pins s σ H D I h;refine wpAny_Assign_Name (cf (he pins s σ H _ I h) λv s1 ⟨y,H1,I1,r1,q1⟩=> ?_) hs
 exact n8 I1 hN hi hx r1 (λs2 I2=>⟨_,H1,I2,q1⟩) hf
end
section
variable {X:Cx}{pos:Pos}
def pJ (c:TT)(tb:TS):TS:=λD σ H=> ∃W:Nat->St->Hp->Prop,(∃m,W m σ H)/\∀m σ H,W m σ H →
 c σ H λb H1=>if b=true then ∃N:St->Hp->Prop,(∀σ' H',N σ' H'->∃m',m'<m/\W m' σ' H')/\tb { D with nx:=N,ct:=N,bk:=D.nx } σ H1 else D.nx σ H1
theorem tN {c:Expr}{body:List Stmt}{tc:TT}{tb:TS}(hp:PassesOwn (model X.prog X.w) X.A X.env X.xe)(hc:PT X c tc)(hb:PSs X body tb):PS X (.While c body [] pos) (pJ tc tb):=by
 intro pins s σ H D I h;obtain⟨W,⟨m0,w0⟩,turn⟩:=h;refine wpAny_While (codeAny_whileLoop (λn s'=> ∃σ' H',Inv X pins σ' H' s'/\W n σ' H') ?_ m0 ⟨σ,H,I,w0⟩)
 rintro n s1 ⟨σ1,H1,I1,w1⟩
 refine wpAny_passesOwn hp (cf (hc pins s1 σ1 H1 _ I1 (turn n σ1 H1 w1)) λb s2 hh_=> ?_)
 obtain⟨H2,I2,q2⟩:=hh_
 cases b with
 | true=>
  obtain⟨N,hN,q2⟩:=q2;rw[if_pos rfl];refine wpAny_passesOwn hp (cf (hb pins s2 σ1 H2 _ I2 q2) λf s3 q3=> ?_)
  cases f with
  | next=>
   obtain⟨σ3,H3,I3,n3⟩:=q3;obtain⟨m',hm,w3⟩:=hN σ3 H3 n3
   exact⟨m',hm,σ3,H3,I3,w3⟩
  | cont=>
   obtain⟨σ3,H3,I3,n3⟩:=q3;obtain⟨m',hm,w3⟩:=hN σ3 H3 n3
   exact⟨m',hm,σ3,H3,I3,w3⟩
  | brk=>exact q3
  | ret v=>exact q3
 | false=>
  rw[if_neg Bool.false_ne_true];exact wpAny_execs_nil ⟨σ1,H2,I2,q2⟩
end
structure It where
 go:Nat->Hp->Prop
 yld:Nat->Hp->V->Hp->Prop
 stop:Nat->Hp->Prop
def jd (X:Cx)(pins:List (Addr×Obj))(H:Hp)(b:Addr):Prop:=
 H b=none/\b≠X.env.locals/\b∉X.fs/\(b∈X.ex\/X.s₀.heap.objs.size<=b)/\(∀x c,X.env.cells.lookup x=some c->c≠b)/\∀p∈X.pn++pins,p.1≠b
theorem Inv.fpOk {X:Cx}{pins:List (Addr×Obj)}{σ:St}{H H':Hp}{s:Shared}{b:Addr}(I:Inv X pins σ H s)(hb:s.heap.objs.size<=b)(hn:H' b=none):jd X pins H' b:=by
 refine⟨hn,Nat.ne_of_gt (Nat.lt_of_lt_of_le I.lt hb),I.nofs hb,.inr (Nat.le_trans I.sz hb),λx c e z=> ?_,λp hp z=> ?_⟩
 ·obtain⟨v,q⟩:=I.cell x c e
  exact absurd (Nat.lt_of_lt_of_le q.lt (by rw[z];exact hb)) (Nat.lt_irrefl _)
 ·exact absurd (Nat.lt_of_lt_of_le (Heap.lt_size (I.pin p hp).1) (by rw[z];exact hb)) (Nat.lt_irrefl _)
structure vz (P:Program)(w:World)(K:PySem.W.Frag)(tg:Expr)(J:It)(fp:List Addr)(it:Addr)(tn:Nat->Heap->Prop):Prop where
 mem:it∈fp
 obj:∀i h,tn i h->∀b∈fp,∃o,h.get? b=some o/\∀v,o.data≠ .cell v
 keep:∀i h h',tn i h->(∀b∈fp,∀o,h.get? b=some o->h'.get? b=some o)->tn i h'
 item:∀(X:Cx),X.prog=P->X.w=w->X.K=K->X.calm=true->∀(i:Nat) (pins:List (Addr×Obj)) (s:Shared) (σ:St) (H:Hp) (E:Value->Shared->Prop),Inv X pins σ H s->(∀b∈fp,jd X pins H b)->tn i s.heap->J.go i H →
  wpAny (model P w) X.A (pyNext (.ref it)) (λr s1=> ∃u,r=some u ∧
   wpAny (model P w) X.A (letOwnedTupleGo tg (.ref it) u) (λ_ s2=> ∃x H',Inv X pins σ H' s2/\RelV x u/\J.yld i H x H'/\tn (i+1) s2.heap/\∀b∈fp,H' b=none) E s1) E s
 done:∀(X:Cx),X.prog=P->X.w=w->X.K=K->X.calm=true->∀(i:Nat) (pins:List (Addr×Obj)) (s:Shared) (σ:St) (H:Hp) (E:Value->Shared->Prop),Inv X pins σ H s->(∀b∈fp,jd X pins H b)->tn i s.heap->J.stop i H →
  wpAny (model P w) X.A (pyNext (.ref it)) (λr s1=>r=none/\Inv X pins σ H s1) E s
 self:∀(A:Around) (i:Nat) (s:Shared) (Q:Value->Shared->Prop) (E:Value->Shared->Prop),tn i s.heap->Q (.ref it) s->wpAny (model P w) A (pyIter (.ref it)) Q E s
abbrev TI:=St->Hp->(It->Hp->Prop)->Prop
def PIE (X:Cx)(pins:List (Addr×Obj))(σ:St)(tg:Expr)(R:It->Hp->Prop)(itv:Value)(s2:Shared):Prop:=
 ∃(it:Addr) (fp:List Addr) (tn:Nat->Heap->Prop) (J:It) (H':Hp),itv= .ref it/\Inv X pins σ H' s2/\vz X.prog X.w X.K tg J fp it tn/\tn 0 s2.heap/\(∀b∈fp,jd X pins H' b)/\R J H'
def PI (X:Cx)(tg iter:Expr)(wi:TI):Prop:=
 ∀(pins:List (Addr×Obj)) (s:Shared) (σ:St) (H:Hp) (R:It->Hp->Prop),Inv X pins σ H s->wi σ H R →
  wpAny (model X.prog X.w) X.A (eval iter X.env) (λv s1=>wpAny (model X.prog X.w) X.A (pyIter v) (PIE X pins σ tg R) X.xe s1) X.xe s
theorem uV {M:Model}{A:Around}{E:Value->Shared->Prop}{s:Shared}{tg:Expr}{it:Addr}{u:Value}{o:Obj}{n:String}{vs:Array Value}{Q:Unit->Shared->Prop}(ho:s.heap.get? it=some o)(hc:o.cls= .type n)(hd:o.data= .fields vs)
  (hn:["enumerate","zip","dict_itemiterator","dict_reverseitemiterator","odict_iterator","itertools.zip_longest","itertools.pairwise"].contains n=false) (hQ:Q () s):wpAny M A (letOwnedTupleGo tg (.ref it) u) Q E s:=by
 unfold letOwnedTupleGo
 cases tg <;> first
  | exact wpAny_pure hQ
  | (cases u <;> first
    | exact wpAny_pure hQ
    | (refine wpAny_bind (wpAny_load ho ?_)
       rw[hc,hd]
       show wpAny M A (if (["enumerate","zip","dict_itemiterator","dict_reverseitemiterator","odict_iterator","itertools.zip_longest","itertools.pairwise"].contains n&&vs[0]? == some (rawInt _))=true then _ else _) Q E s
       rw[if_neg (by intro h;rw[hn,Bool.false_and]at h;cases h)]
       exact wpAny_pure hQ))
def Itl (K:PySem.W.Frag)(a:Addr):It:=
 ⟨λi H=> ∃xs x,SqL K H a xs/\xs[i]? =some x,λi H x H'=>H'=H/\∀xs,SqL K H a xs->xs[i]? =some x,λi H=> ∃xs,SqL K H a xs/\xs.length<=i⟩
def Itt (K:PySem.W.Frag)(a:Addr):It:=
 ⟨λi H=> ∃xs x,SqT K H a xs/\xs[i]? =some x,λi H x H'=>H'=H/\∀xs,SqT K H a xs->xs[i]? =some x,λi H=> ∃xs,SqT K H a xs/\xs.length<=i⟩
def Itr (lo:Int)(n:Nat):It:=⟨λi _=>i<n,λi H x H'=>H'=H/\x= .int (lo+i),λi _=>n<=i⟩
theorem rF {P:Program}{w:World}{K:PySem.W.Frag}{tg:Expr}(a it:Addr):vz P w K tg (Itl K a) [it] it (λi h=>h.IsListIter it a i) where
 mem:=by simp
 obj:=λi h st b hb=>by
  have e:b=it:=by simpa using hb
  subst e;obtain⟨o,e,c,d⟩:=st;exact⟨o,e,λv z=>by rw[d]at z;cases z⟩
 keep:=λi h h' st k=>st.at λo e=>k it (by simp) o e
 item:=by
  intro X hP hw hK hc i pins s σ H E I hf st hg;subst hP hw hK;obtain⟨xs,x,hq,hx⟩:=hg;obtain⟨its,rv,p,hz⟩:=I.list hq;obtain⟨u,hu,ru⟩:=rv.get hx;obtain⟨f0,f1,f2,f3,f4,f5⟩:=hf it (by simp)
  refine wpAny_pyNext_list_item st p.isList (x:=u) (by simpa using hu) λh' st' sb=> ?_
  have I1:Inv X pins σ H { s with heap:=h' }:=I.turned (t':=s.toks) (λb o hb e=>(sb.2 b hb).trans e) f0 f1 f3 f4 f5
  obtain⟨o,e,c,d⟩:=id st';exact⟨u,rfl,uV (s:={ s with heap:=h' }) e c d (by decide) ⟨x,H,I1,ru,⟨rfl,λys hy=>by rw[I.list_inj hy hq];exact hx⟩,st',λb hb=>(hf b hb).1⟩⟩
 done:=by
  intro X hP hw hK hc i pins s σ H E I hf st hg;subst hP hw hK;obtain⟨xs,hq,hx⟩:=hg;obtain⟨its,rv,p,hz⟩:=I.list hq;obtain⟨f0,f1,f2,f3,f4,f5⟩:=hf it (by simp)
  have hl:=rv.length;exact wpAny_pyNext_list_end (I.ok.hd hc) st p.isList (by simp;omega) λh' eb=>⟨rfl,I.turned (t':=s.toks) (λb o hb e=>eb b o hb e) f0 f1 f3 f4 f5⟩
 self:=λ_ _ _ _ _ st h=>wpAny_pyIter_listiter st h
theorem pH {P:Program}{w:World}{K:PySem.W.Frag}{tg:Expr}(a it:Addr):vz P w K tg (Itt K a) [it] it (λi h=>h.IsTupleIter it a i) where
 mem:=by simp
 obj:=λi h st b hb=>by
  have e:b=it:=by simpa using hb
  subst e;obtain⟨o,e,c,d⟩:=st;exact⟨o,e,λv z=>by rw[d]at z;cases z⟩
 keep:=λi h h' st k=>st.at λo e=>k it (by simp) o e
 item:=by
  intro X hP hw hK hc i pins s σ H E I hf st hg;subst hP hw hK;obtain⟨xs,x,hq,hx⟩:=hg;obtain⟨its,rv,p,hz⟩:=I.tuple hq;obtain⟨u,hu,ru⟩:=rv.get hx;obtain⟨f0,f1,f2,f3,f4,f5⟩:=hf it (by simp)
  refine wpAny_pyNext_tuple_item st (show s.heap.IsTuple a its.toArray from p) (x:=u) (by simpa using hu) λh' st' sb=> ?_
  have I1:Inv X pins σ H { s with heap:=h' }:=I.turned (t':=s.toks) (λb o hb e=>(sb.2 b hb).trans e) f0 f1 f3 f4 f5
  obtain⟨o,e,c,d⟩:=id st';exact⟨u,rfl,uV (s:={ s with heap:=h' }) e c d (by decide) ⟨x,H,I1,ru,⟨rfl,λys hy=>by rw[I.tuple_inj hy hq];exact hx⟩,st',λb hb=>(hf b hb).1⟩⟩
 done:=by
  intro X hP hw hK hc i pins s σ H E I hf st hg;subst hP hw hK;obtain⟨xs,hq,hx⟩:=hg;obtain⟨its,rv,p,hz⟩:=I.tuple hq;obtain⟨f0,f1,f2,f3,f4,f5⟩:=hf it (by simp)
  have hl:=rv.length;exact wpAny_pyNext_tuple_end (I.ok.hd hc) st (show s.heap.IsTuple a its.toArray from p) (by simp;omega) λh' eb=>⟨rfl,I.turned (t':=s.toks) (λb o hb e=>eb b o hb e) f0 f1 f3 f4 f5⟩
 self:=λ_ _ _ _ _ st h=>wpAny_pyIter_tupleiter st h
theorem pI {P:Program}{w:World}{K:PySem.W.Frag}{tg:Expr}(it:Addr)(lo:Int)(n:Nat):vz P w K tg (Itr lo n) [it] it (λi h=>IsRangeIter h it (lo+(i:Nat)*1) ((n:Int) - (i:Nat)) 1) where
 mem:=by simp
 obj:=λi h st b hb=>by
  have e:b=it:=by simpa using hb
  subst e
  exact⟨_,st,λv z=>by
   have z':Data.fields _=Data.cell v:=z;cases z'⟩
 keep:=λi h h' st k=>k it (by simp) _ st
 item:=by
  intro X hP hw hK hc i pins s σ H E I hf st hg;subst hP hw hK;obtain⟨f0,f1,f2,f3,f4,f5⟩:=hf it (by simp)
  have W:=Walks.range (prog:=X.prog) (w:=X.w) (I.ok.hd hc) it lo 1 n;refine W.item i s _ _ hg st λv h' tk hv st' kk=> ?_
  obtain⟨t,rfl⟩:=hv
  have I1:Inv X pins σ H { s with heap:=h',toks:=tk }:=I.turned (λb o hb e=>kk b o (by simpa using hb) e) f0 f1 f3 f4 f5
  refine⟨_,rfl,uV (s:={ s with heap:=h',toks:=tk }) (n:="range_iterator") st' rfl rfl (by decide) ⟨.int (lo+i),H,I1,⟨t,?_⟩,⟨rfl,rfl⟩,st',λb hb=>(hf b hb).1⟩⟩
  rw[Int.mul_one]
 done:=by
  intro X hP hw hK hc i pins s σ H E I hf st hg;subst hP hw hK;obtain⟨f0,f1,f2,f3,f4,f5⟩:=hf it (by simp)
  exact wpAny_pyNext_range_end (I.ok.hd hc) st (by have:n<=i:=hg;omega) λh' eb=>⟨rfl,I.turned (t':=s.toks) (λb o hb e=>eb b o hb e) f0 f1 f3 f4 f5⟩
 self:=λ_ _ _ _ _ st h=>wpAny_pyIter_rangeiter st h
section
variable {X:Cx}{tg:Expr}
def BJ (K:PySem.W.Frag)(tl:TE):TI:=λσ H R=>tl σ H λx H1=> ∃a,x= .ref a/\(∃xs,SqL K H1 a xs)/\R (Itl K a) H1
def iTup (K:PySem.W.Frag)(tl:TE):TI:=λσ H R=>tl σ H λx H1=> ∃a,x= .ref a/\(∃xs,SqT K H1 a xs)/\R (Itt K a) H1
theorem wN {l:Expr}{tl:TE}(hl:PE X l tl):PI X tg l (BJ X.K tl):=by
 intro pins s σ H R I h;refine cf (hl pins s σ H _ I h) λv s1 hh_=> ?_
 obtain⟨x,H1,I1,r1,q1⟩:=hh_;obtain⟨a,e,⟨xs,hq⟩,q⟩:=q1;subst e;cases r1;obtain⟨its,rv,p,hz⟩:=I1.list hq;refine wpAny_pyIter_list p.isList ?_
 refine⟨s1.heap.objs.size,[s1.heap.objs.size],_,_,H1,rfl,I1.kept (t':=s1.toks) λb o e=>Heap.get?_push_of_some _ e,rF a _,⟨_,Heap.get?_push_size _ rfl,rfl,rfl⟩,λb hb=> ?_,q⟩
 have e:b=s1.heap.objs.size:=by simpa using hb
 subst e;exact I1.fpOk (Nat.le_refl _) (I1.hok.fresh (Nat.le_refl _))
theorem zf {l:Expr}{tl:TE}(hl:PE X l tl):PI X tg l (iTup X.K tl):=by
 intro pins s σ H R I h;refine cf (hl pins s σ H _ I h) λv s1 hh_=> ?_
 obtain⟨x,H1,I1,r1,q1⟩:=hh_;obtain⟨a,e,⟨xs,hq⟩,q⟩:=q1;subst e;cases r1;obtain⟨its,rv,p,hz⟩:=I1.tuple hq;refine wpAny_pyIter_tuple (show s1.heap.IsTuple a its.toArray from p) ?_
 refine⟨s1.heap.objs.size,[s1.heap.objs.size],_,_,H1,rfl,I1.kept (t':=s1.toks) λb o e=>Heap.get?_push_of_some _ e,pH a _,⟨_,Heap.get?_push_size _ rfl,rfl,rfl⟩,λb hb=> ?_,q⟩
 have e:b=s1.heap.objs.size:=by simpa using hb
 subst e;exact I1.fpOk (Nat.le_refl _) (I1.hok.fresh (Nat.le_refl _))
theorem oC {pins:List (Addr×Obj)}{σ:St}{H:Hp}{s:Shared}{R:It->Hp->Prop}{E:Value->Shared->Prop}{lo hi:Int}{t u v:Tok}{tk:Nat}(I:Inv X pins σ H s)(h1 : -(2 ^ 62)<=lo)(h2:lo<2 ^ 62)(h3 : -(2 ^ 62)<=hi)(h4:hi<2 ^ 62)
  (q:R (Itr lo (hi - lo).toNat) H):wpAny (model X.prog X.w) X.A (pyIter (.ref s.heap.objs.size)) (PIE X pins σ tg R) E { s with heap:=s.heap.push { cls:=.type "range",data:=.fields #[.int lo t,.int hi u,.int 1 v] },toks:=tk }:=by
 refine wpAny_pyIter_range (IsRange.new ..) (small_one h1 h2 h3 h4) ?_
 have I1:Inv X pins σ H { s with heap:=s.heap.push { cls:=.type "range",data:=.fields #[.int lo t,.int hi u,.int 1 v] },toks:=tk }:=I.kept λb o e=>Heap.get?_push_of_some _ e
 refine⟨(s.heap.push { cls:=.type "range",data:=.fields #[.int lo t,.int hi u,.int 1 v] }).objs.size,[(s.heap.push { cls:=.type "range",data:=.fields #[.int lo t,.int hi u,.int 1 v] }).objs.size],_,_,H,rfl,
  I1.kept (t':=tk) λb o e=>Heap.get?_push_of_some _ e,pI _ lo (hi - lo).toNat,?_,λb hb=> ?_,q⟩
 ·have e1:lo+((0:Nat):Int)*1=lo:=by simp
  have e2:(((hi - lo).toNat:Nat):Int) - ((0:Nat):Int)=Builtin.Range.rangeSize lo hi 1:=by rw[rangeSize_one];split <;> omega
  show IsRangeIter _ _ (lo+((0:Nat):Int)*1) ((((hi - lo).toNat:Nat):Int) - ((0:Nat):Int)) 1
  rw[e1,e2];exact Heap.get?_push_size _ rfl
 ·have e:b=(s.heap.push { cls:=.type "range",data:=.fields #[.int lo t,.int hi u,.int 1 v] }).objs.size:=by simpa using hb
  subst e;exact I1.fpOk (Nat.le_refl _) (I1.hok.fresh (Nat.le_refl _))
def tFor (wi:TI)(g:TG)(tb:TS):TS:=λD σ H=>wi σ H λJ H1=> ∃W:Nat->Nat->St->Hp->Prop,(∃m,W 0 m σ H1)/\∀i m σ H,W i m σ H →
 (J.stop i H/\D.nx σ H)\/(J.go i H/\∃N:St->Hp->Prop,(∀σ' H',N σ' H'->∃m',m'<m/\W (i+1) m' σ' H')/\∀x H',J.yld i H x H'->g x σ H' λσ2 H2=>tb { D with nx:=N,ct:=N,bk:=D.nx } σ2 H2)
def kI (fp:List Addr)(h:Heap):List (Addr×Obj):=fp.filterMap λb=>(h.get? b).map λo=>(b,o)
theorem f9 {fp:List Addr}{h:Heap}{b:Addr}{o:Obj}(hb:b∈fp)(e:h.get? b=some o):(b,o)∈kI fp h:=List.mem_filterMap.mpr ⟨b,hb,by rw[e];rfl⟩
theorem rW {fp:List Addr}{h:Heap}{p:Addr×Obj}(hp:p∈kI fp h):p.1∈fp/\h.get? p.1=some p.2:=by
 obtain⟨b,hb,e⟩:=List.mem_filterMap.mp hp
 cases q:h.get? b with
 | none=>rw[q]at e;cases e
 | some o=>
  rw[q]at e
  have e':(b,o)=p:=Option.some.inj e;subst e';exact⟨hb,q⟩
theorem Inv.pinned {pins:List (Addr×Obj)}{σ:St}{H:Hp}{s:Shared}{fp:List Addr}(I:Inv X pins σ H s)(hf:∀b∈fp,jd X pins H b)(ho:∀b∈fp,∃o,s.heap.get? b=some o/\∀v,o.data≠ .cell v):Inv X (pins++kI fp s.heap) σ H s:=
 I.pins_of λp hp=>(List.mem_append.mp hp).elim (λz=>I.pin p (List.mem_append_right _ z)) λz=>by
  obtain⟨hb,e⟩:=rW z;obtain⟨f0,f1,f2,_⟩:=hf p.1 hb;obtain⟨o,e',d⟩:=ho p.1 hb;rw[e]at e';cases e';exact⟨e,f0,f1,f2,d⟩
theorem Inv.unpinned {pins pl:List (Addr×Obj)}{σ:St}{H:Hp}{s:Shared}(I:Inv X (pins++pl) σ H s):Inv X pins σ H s:=I.pins_of λp hp=>I.pin p (List.mem_append_right _ (List.mem_append_left _ hp))
end
abbrev R2:=V->V->Hp->VK->Prop
def mG (X:Cx)(f:Value->Value->Sem Value)(r:R2):Prop:=
 ∀(pins:List (Addr×Obj)) (s:Shared) (σ:St) (H:Hp) (x y:V) (v u:Value) (Q:VK),Inv X pins σ H s->RelV x v->RelV y u->r x y H Q →
  wpAny (model X.prog X.w) X.A (f v u) (EP X pins σ Q) X.xe s
def UnR (X:Cx)(f:Value->Sem Value)(r:V->Hp->VK->Prop):Prop:=
 ∀(pins:List (Addr×Obj)) (s:Shared) (σ:St) (H:Hp) (x:V) (v:Value) (Q:VK),Inv X pins σ H s->RelV x v->r x H Q →
  wpAny (model X.prog X.w) X.A (f v) (EP X pins σ Q) X.xe s
def CallR (X:Cx)(f:Value)(r:List V->Hp->VK->Prop):Prop:=
 ∀(pins:List (Addr×Obj)) (s:Shared) (σ:St) (H:Hp) (xs:List V) (us:List Value) (Q:VK),Inv X pins σ H s->Vals xs us->r xs H Q →
  wpAny (model X.prog X.w) X.A (call f us) (EP X pins σ Q) X.xe s
def tUn (r:V->Hp->VK->Prop)(ta:TE):TE:=λσ H Q=>ta σ H λx H1=>r x H1 Q
def rI (C:Int->Int->Prop)(g:Int->Int->V):R2:=λx y H Q=> ∃i j,x= .int i/\y= .int j/\C i j/\Q (g i j) H
def xZ (g:Int->Int->V):R2:=λx y H Q=> ∃i j,x= .int i/\y= .int j/\Q (g i j) H
def rU (g:Int->V):V->Hp->VK->Prop:=λx H Q=> ∃i,x= .int i/\Q (g i) H
section
variable {X:Cx}{a b c:Expr}{ta tb tc:TE}{pos:Pos}
theorem x6 {op:UnaryOp}{r:V->Hp->VK->Prop}(ho:UnR X (unaryOp op) r)(ha:PE X a ta):PE X (.UnaryOp op a pos) (tUn r ta):=by
 intro pins s σ H Q I h;exact UnaryOp_ (cf (ha pins s σ H _ I h) λv s1 ⟨x,H1,I1,r1,q1⟩=>ho pins s1 σ H1 x v Q I1 r1 q1)
theorem opI {f:Value->Value->Sem Value}{C:Int->Int->Prop}{g:Int->Int->Int}
  (rule:∀(i j:Int) (t u:Tok) (s:Shared) (Q:Value->Shared->Prop) (E:Value->Shared->Prop),C i j->Q (.int (g i j) s.toks) { s with toks:=s.toks+1 }->wpAny (model X.prog X.w) X.A (f (.int i t) (.int j u)) Q E s) :
  mG X f (rI C λi j=> .int (g i j)):=by
 intro pins s σ H x y v u Q I rx ry h;obtain⟨i,j,rfl,rfl,hc,q⟩:=h;obtain⟨t,rfl⟩:=rx;obtain⟨t',rfl⟩:=ry;exact rule i j t t' s _ _ hc ⟨.int (g i j),H,I.tok _,⟨_,rfl⟩,q⟩
theorem Bm {f:Value->Value->Sem Value}{g:Int->Int->Int}
  (rule:∀(i j:Int) (t u:Tok) (s:Shared) (Q:Value->Shared->Prop) (E:Value->Shared->Prop),Q (.int (g i j) s.toks) { s with toks:=s.toks+1 }->wpAny (model X.prog X.w) X.A (f (.int i t) (.int j u)) Q E s) :
  mG X f (xZ λi j=> .int (g i j)):=by
 intro pins s σ H x y v u Q I rx ry h;obtain⟨i,j,rfl,rfl,q⟩:=h;obtain⟨t,rfl⟩:=rx;obtain⟨t',rfl⟩:=ry;exact rule i j t t' s _ _ ⟨.int (g i j),H,I.tok _,⟨_,rfl⟩,q⟩
theorem zx {f:Value->Value->Sem Value}{g:Int->Int->Bool}
  (rule:∀(i j:Int) (t u:Tok) (s:Shared) (Q:Value->Shared->Prop) (E:Value->Shared->Prop),Q (.bool (g i j)) s->wpAny (model X.prog X.w) X.A (f (.int i t) (.int j u)) Q E s) :
  mG X f (xZ λi j=> .bl (g i j)):=by
 intro pins s σ H x y v u Q I rx ry h;obtain⟨i,j,rfl,rfl,q⟩:=h;obtain⟨t,rfl⟩:=rx;obtain⟨t',rfl⟩:=ry;exact rule i j t t' s _ _ ⟨.bl (g i j),H,I,rfl,q⟩
def CDiv (i j:Int):Prop:=0<j/\j<1073741824
def CMul (i j:Int):Prop:=(-(2 ^ 64)<i/\i<2 ^ 64)\/(-(2 ^ 64)<j/\j<2 ^ 64)
theorem CMul.ok {i j:Int}(h:CMul i j):IntMulOk i j:=by
 rcases h with⟨h1,h2⟩ | ⟨h1,h2⟩
 ·exact .of_left (intBits_le_64 h1 h2)
 ·exact .of_right (intBits_le_64 h1 h2)
theorem zw:mG X (binaryOp .Add) (xZ λi j=> .int (i+j)):=Bm λ_ _ _ _ _ _ _ q=>add_int q
theorem zo:mG X (binaryOp .Sub) (xZ λi j=> .int (i - j)):=Bm λ_ _ _ _ _ _ _ q=>sub_int q
theorem zq:mG X (binaryOp .Mult) (rI CMul λi j=> .int (i*j)):=opI λ_ _ _ _ _ _ _ hc q=>mul_int q hc.ok
theorem wX:mG X (binaryOp .FloorDiv) (rI CDiv λi j=> .int (i / j)):=opI λi j _ _ _ _ _ hc q=>by
 have h1:(0:Int)<j:=hc.1
 have h2:j<1073741824:=hc.2;exact floordiv_int (by omega) (by rw[Int.fdiv_eq_ediv_of_nonneg i (by omega)];exact q) (.inl (PyProof.noPylong_small (by omega)))
theorem zr:mG X (binaryOp .Mod) (rI (λ_ j=>0<j) λi j=> .int (i % j)):=opI λi j _ _ _ _ _ hc q=>by
 have h1:(0:Int)<j:=hc;exact mod_int' (by omega) (by rw[Int.fmod_eq_emod_of_nonneg i (by omega)];exact q)
theorem unI {f:Value->Sem Value}{g:Int->Int}
  (rule:∀(i:Int) (t:Tok) (s:Shared) (Q:Value->Shared->Prop) (E:Value->Shared->Prop),Q (.int (g i) s.toks) { s with toks:=s.toks+1 }->wpAny (model X.prog X.w) X.A (f (.int i t)) Q E s) :
  UnR X f (rU λi=> .int (g i)):=by
 intro pins s σ H x v Q I rx h;obtain⟨i,rfl,q⟩:=h;obtain⟨t,rfl⟩:=rx;exact rule i t s _ _ ⟨.int (g i),H,I.tok _,⟨_,rfl⟩,q⟩
theorem sW:UnR X (unaryOp .USub) (rU λi=> .int (-i)):=unI λ_ _ _ _ _ q=>neg_int q
end
section
variable {X:Cx}{a b c:Expr}{ta tb tc:TE}{pos:Pos}
theorem uZ {pins:List (Addr×Obj)}{σ:St}{H:Hp}{s:Shared}{Q:VK}{k k':Bool}(I:Inv X pins σ H s)(q:Q (.bl k) H)(e:k=k'):EP X pins σ Q (.bool k') s:=by
 subst e;exact⟨.bl k,H,I,rfl,q⟩
theorem Bi:mG X (compareOp .Lt) (xZ λi j=> .bl (decide (i<j))):=zx λ_ _ _ _ _ _ _ q=>lt_int q
theorem Bj:mG X (compareOp .LtE) (xZ λi j=> .bl (decide (i<=j))):=zx λ_ _ _ _ _ _ _ q=>le_int q
theorem Bk:mG X (compareOp .GtE) (xZ λi j=> .bl (decide (j<=i))):=zx λ_ _ _ _ _ _ _ q=>ge_int q
theorem zu:mG X (compareOp .Is) (λx y H Q=>y= .non/\Q (.bl (decide (x= .non))) H):=by
 intro pins s σ H x y v u Q I rx ry h;obtain⟨rfl,q⟩:=h;cases ry;refine is_none_gen (uZ I q ?_)
 cases x <;> first
  | (cases rx;rfl)
  | (obtain⟨t,rfl⟩:=rx;rfl)
theorem wW:mG X (compareOp .IsNot) (λx y H Q=>y= .non/\Q (.bl (!decide (x= .non))) H):=by
 intro pins s σ H x y v u Q I rx ry h;obtain⟨rfl,q⟩:=h;cases ry;refine isnot_none_gen (uZ I q ?_)
 cases x <;> first
  | (cases rx;rfl)
  | (obtain⟨t,rfl⟩:=rx;rfl)
theorem k4:(sizeLine:Nat)<2 ^ 63:=by rw[sizeLine_eq];decide
theorem pU:mG X (binaryOp .Add) (λx y H Q=> ∃i j,x= .str i/\y= .str j/\i.length+j.length<=sizeLine/\Q (.str (i++j)) H):=by
 intro pins s σ H x y v u Q I rx ry h;obtain⟨i,j,rfl,rfl,hz,q⟩:=h;obtain⟨t,rfl⟩:=rx;obtain⟨t',rfl⟩:=ry;exact add_str (λt' tk=>⟨.str (i++j),H,I.tok _,⟨_,rfl⟩,q⟩) hz
theorem iH {x:V}{us:List Value}(r:Vals [x] us):∃u,us= [u]/\RelV x u:=by
 cases r with
 | cons r1 r2=>cases r2;exact⟨_,rfl,r1⟩
theorem xV {x y:V}{us:List Value}(r:Vals [x,y] us):∃u w',us= [u,w']/\RelV x u/\RelV y w':=by
 cases r with
 | cons r1 r2=>
  cases r2 with
  | cons r3 r4=>cases r4;exact⟨_,_,rfl,r1,r3⟩
theorem sC (hc:X.calm=true):CallR X (.builtin "min") (λxs H Q=> ∃i j,xs= [.int i,.int j]/\Q (.int (if j<i then j else i)) H):=by
 intro pins s σ H xs us Q I r h;obtain⟨i,j,rfl,q⟩:=h;obtain⟨u,w',rfl,⟨t,rfl⟩,⟨t',rfl⟩⟩:=xV r;refine min_two_ints (I.ok.hd hc) λh' tk k=>⟨_,H,I.kept k,?_,q⟩
 by_cases hj:j<i
 ·rw[if_pos hj,if_pos hj];exact⟨_,rfl⟩
 ·rw[if_neg hj,if_neg hj];exact⟨_,rfl⟩
theorem sE:CallR X (.type "int") (λxs H Q=>(∃i,xs= [.int i]/\Q (.int i) H)\/∃k,xs= [.bl k]/\Q (.int (if k then 1 else 0)) H):=by
 intro pins s σ H xs us Q I r h;rcases h with⟨i,rfl,q⟩ | ⟨k,rfl,q⟩
 ·obtain⟨u,rfl,t,rfl⟩:=iH r
  exact call_int_int ⟨.int i,H,I,⟨_,rfl⟩,q⟩
 ·obtain⟨u,rfl,r1⟩:=iH r
  cases r1;exact call_int_bool ⟨.int (if k then 1 else 0),H,I.tok _,⟨_,rfl⟩,q⟩
end
structure ObjM (h:Heap)(x dx C:Addr)(mA:Str->Option Value):Prop where
 obj:h.get? x=some (PySem.W.instObj C dx)
 ns:h.Ns1 dx mA
 ne:dx≠x
theorem r0 {h:Heap}{dx:Addr}{mA:Str->Option Value}(n:h.Ns1 dx mA):∃od,h.get? dx=some od/\∀name,PySem.W.lookIn name od=some (mA name):=by
 obtain⟨o,es,ep,ho,hd,hk,_,hm⟩:=n;refine⟨o,ho,λname=> ?_⟩
 have e:=hm name;unfold nsFind findBy at e;rw[<-Array.find?_toList]at e
 unfold PySem.W.lookIn;rw[hd]
 dsimp only
 split
 ·rename_i y q
  rw[q]at e;exact congrArg some e
 ·rename_i q
  rw[q]at e
  have a:es.toList.any (·.refKey)=false:=by
   rw[List.any_eq_false];intro y hy;obtain⟨z,t,hkey⟩:=hk y (Array.mem_toList_iff.mp hy);simp[DictEntry.refKey,hkey]
  have a':¬ es.toList.any (·.refKey)=true:=by rw[a];exact Bool.false_ne_true
  rw[if_neg a'];exact congrArg some e
theorem ObjM.look {h:Heap}{x dx C:Addr}{mA:Str->Option Value}(I:ObjM h x dx C mA):∃od,PySem.W.InstAt h x (PySem.W.instObj C dx) C (some od)/\∀name,PySem.W.lookIn name od=some (mA name):=
 let ⟨od,ho,hl⟩:=r0 I.ns
 ⟨od,⟨I.obj,rfl,rfl,ho⟩,hl⟩
theorem RelO.some_of {v:V}{o:Option Value}(r:RelO (some v) o):∃u,o=some u/\RelV v u:=by
 cases o with
 | none=>exact(show False from r).elim
 | some u=>exact⟨u,rfl,r⟩
section
variable {P:Program}{w:World}{H H':Hp}{h h':Heap}{a C dx:Addr}{fs fs':List (Str×V)}
theorem xn (hok:HOk P w H h)(e:H a=some (.ins C dx fs)):∃mA,ObjM h a dx C mA/\(∀f,RelO (fs.lookup f) (mA f))/\PySem.Within mA (fs.map (·.1))/\fs.length<=1000/\H dx=some (.own a):=by
 obtain⟨d,z,ne,ob,mA,n,r,q⟩:=(show ObjOk P w H h a (.ins C dx fs)from hok a _ e)
 exact⟨mA,⟨ob,n,ne⟩,r,q,z,d⟩
end
structure Cls (K:PySem.W.Frag)(C:Addr):Prop where
 pg:PySem.W.plainGet K C Str.empty=true
 hd:PySem.W.hasDictIn K C=true
 po:PySem.W.plainOver K C=true
 sa:PySem.W.findIn K (.ref C) "__setattr__" =some (some (.builtin "object.__setattr__"))
theorem Cls.get {K:PySem.W.Frag}{C:Addr}(c:Cls K C)(f:Str):PySem.W.plainGet K C f=true:=c.pg
section
variable {X:Cx}{pins:List (Addr×Obj)}{σ:St}{H:Hp}{s:Shared}{A:Around}{E:Value->Shared->Prop}{Q:Value->Shared->Prop}{c:Value}{b:Bool}
inductive jz (K:PySem.W.Frag) (H:Hp):V->Value->Prop where
 | non:jz K H .non (.type "NoneType")
 | bl (x:Bool):jz K H (.bl x) (.type "bool")
 | int (i:Int):jz K H (.int i) (.type "int")
 | str (x:Str):jz K H (.str x) (.type "str")
 | flt (x:UInt64):jz K H (.flt x) (.type "float")
 | lst {a:Addr} {xs:List V} (e:H a=some (.lst xs)):jz K H (.ref a) (.type "list")
 | frz {a:Addr} {o:Obj} {xs:List V} (e:H a=some (.frz o (.lst xs))):jz K H (.ref a) (.type "list")
 | tup {a:Addr} {xs:List V} (e:H a=some (.tup xs)):jz K H (.ref a) (.type "tuple")
 | dK {a:Addr} {kvs:List (Key×V)} (e:H a=some (.dK kvs)):jz K H (.ref a) (.type "dict")
 | dT {a:Addr} {kvs:List (List Key×V)} (e:H a=some (.dT kvs)):jz K H (.ref a) (.type "dict")
 | ins {a C dx:Addr} {fs:List (Str×V)} (e:H a=some (.ins C dx fs)) (cl:Cls K C) (ha:PySem.W.findIn K (.ref C) "__class__" =some (some (.builtin "object.__class__")))
   (hn:PySem.W.specialIn K (.builtin "object.__class__") "__get__" =some (some (.builtin "getset_descriptor.__get__"))) (htk:PySem.W.takesIn K (.builtin "object.__class__")=some true)
   (hm:PySem.W.mroIn K C (.type "object")=some true):jz K H (.ref a) (.ref C)
theorem sf {x:V}{u t:Value}(I:Inv X pins σ H s)(rx:RelV x u)(ty:jz X.K H x t)(e:PySem.W.kitOne X.K t c=some b)(h:∀tk,Q (.bool b) { s with toks:=tk }) :
  wpAny (model X.prog X.w) A (call (.builtin "isinstance") [u,c]) Q E s:=by
 cases ty with
 | non=>cases (show u=Value.none from rx);exact PySem.W.kia_one PySem.W.kitx_none I.kIn True.intro e (λz=>nomatch z) h
 | bl y=>cases (show u=Value.bool y from rx);exact PySem.W.kia_one PySem.W.kitx_bool I.kIn True.intro e (λz=>nomatch z) h
 | int i=>obtain⟨t,q⟩:=(show ∃t,u=Value.int i t from rx);cases q;exact PySem.W.kia_one PySem.W.kitx_int I.kIn True.intro e (λz=>nomatch z) h
 | str y=>obtain⟨t,q⟩:=(show ∃t,u=Value.str y t from rx);cases q;exact PySem.W.kia_one PySem.W.kitx_str I.kIn True.intro e (λz=>nomatch z) h
 | flt y=>obtain⟨t,q⟩:=(show ∃t,u=Value.float y t from rx);cases q;exact PySem.W.kia_one PySem.W.kitx_float I.kIn True.intro e (λz=>nomatch z) h
 | @lst a xs ea=>
  cases (show u=Value.ref a from rx)
  obtain⟨_,_,n,_,h1⟩:=(show ObjOk X.prog X.w H s.heap a (.lst xs)from I.hok a _ ea)
  exact PySem.W.kia_one PySem.W.kitx_list I.kIn ⟨_,h1,rfl⟩ e (λz=>nomatch z) h
 | @frz a ob xs ea=>
  cases (show u=Value.ref a from rx)
  obtain⟨_,_,_,n,_,h1⟩:=(show ObjOk X.prog X.w H s.heap a (.frz ob (.lst xs))from I.hok a _ ea)
  exact PySem.W.kia_one PySem.W.kitx_list I.kIn ⟨_,h1,rfl⟩ e (λz=>nomatch z) h
 | @tup a xs ea=>
  cases (show u=Value.ref a from rx)
  obtain⟨_,_,_,p⟩:=(show ObjOk X.prog X.w H s.heap a (.tup xs)from I.hok a _ ea)
  obtain⟨o,h1,h2,_⟩:=p
  exact PySem.W.kia_one PySem.W.kitx_tuple I.kIn ⟨o,h1,h2⟩ e (λz=>nomatch z) h
 | @dK a kvs ea=>
  cases (show u=Value.ref a from rx)
  obtain⟨_,_,vs,_,p⟩:=(show ObjOk X.prog X.w H s.heap a (.dK kvs)from I.hok a _ ea)
  obtain⟨o,es,ep,h1,h2,_⟩:=p
  exact PySem.W.kia_one PySem.W.kitx_dict I.kIn ⟨o,h1,h2.1⟩ e (λz=>nomatch z) h
 | @dT a kvs ea=>
  cases (show u=Value.ref a from rx)
  obtain⟨_,_,xs,_,o,es,ep,h1,h2,_⟩:=(show ObjOk X.prog X.w H s.heap a (.dT kvs)from I.hok a _ ea)
  exact PySem.W.kia_one PySem.W.kitx_dict I.kIn ⟨o,h1,h2.1⟩ e (λz=>nomatch z) h
 | @ins a C dx fs ea cl ha hn htk hm=>
  cases (show u=Value.ref a from rx)
  obtain⟨mA,O,_⟩:=xn I.hok ea;obtain⟨od,J,_⟩:=O.look;exact PySem.W.kia_one (PySem.W.kitx_own (cl.get _) cl.hd ha hn htk hm) I.kIn J e (λz=>nomatch z) h
end
structure Room (k:Nat)(A:Around):Prop where
 hd:A.handled=none
 dp:A.depth+3*k+5<recursionLimit
 un:A.units+16*k+200<cLine
theorem Room.mono {j k:Nat}{A:Around}(r:Room k A)(h:j<=k):Room j A:=⟨r.hd,by have:=r.dp;omega,by have:=r.un;omega⟩
theorem Room.deeper {k:Nat}{A:Around}(r:Room (k+1) A)(env:Env):Room k (A.deeper env):=
 ⟨r.hd,by have:=r.dp;show A.depth+1+3*k+5<_;omega,by have:=r.un;show A.units+3+16*k+200<_;omega⟩
theorem Room.depth {k:Nat}{A:Around}(r:Room k A):A.depth<recursionLimit:=by have:=r.dp;omega
def AE:TA:=λ_ H Q=>Q [] H
def sZ (ta:TE)(tr:TA):TA:=λσ H Q=>ta σ H λx H1=>tr σ H1 λxs H2=>Q (x::xs) H2
section
variable {X:Cx}{e:Expr}{es:List Expr}{te:TE}{t:TA}{pos:Pos}
theorem kJ:PA X [] AE:=λ_ _ _ _ H Q I h=>Calls.spliced_nil ⟨[],H,I,.nil,h⟩
theorem gV (ha:PE X e te)(hr:PA X es t)(hs:starEach (e::es) X.env=(false,eval e X.env)::starEach es X.env:=by rfl):PA X (e::es) (sZ te t):=by
 intro pos pins s σ H Q I h;rw[hs]
 show wpAny _ _ (spliced ((false,eval e X.env)::backTo pos (starEach es X.env))) _ _ s
 refine Calls.spliced_cons (cf (ha pins s σ H _ I h) λu s1 hh_=> ?_)
 obtain⟨x,H1,I1,r1,q1⟩:=hh_;exact cf (hr pos pins s1 σ H1 _ I1 q1) λus s2 ⟨xs,H2,I2,r2,q2⟩=>⟨x::xs,H2,I2,.cons r1 r2,q2⟩
def tTup (t:TA):TE:=λσ H Q=>t σ H λxs H1=>xs.length<=sizeLine/\∀p,H1 p=none->Q (.ref p) (upd H1 p (.tup xs))
def tLst (t:TA):TE:=λσ H Q=>t σ H λxs H1=>xs.length<=sizeLine/\∀p,H1 p=none->Q (.ref p) (upd H1 p (.lst xs))
theorem zh {x1}(h:PA X es t):PE X (.Tuple es x1 pos) (tTup t):=by
 intro pins s σ H Q I hq;refine wpAny_Tuple_spliced (cf (h pos pins s σ H _ I hq) λus s1 ⟨xs,H1,I1,r,z,q⟩=>⟨by rw[<-r.length];exact z,?_⟩)
 have hf:H1 s1.heap.objs.size=none:=I1.hok.fresh (Nat.le_refl _);refine⟨.ref s1.heap.objs.size,upd H1 s1.heap.objs.size (.tup xs),I1.laid (t':=s1.toks) (λb u e=>Heap.get?_push_of_some _ e) (Nat.le_refl _) ?_,rfl,q _ hf⟩
 exact⟨z,us,r,⟨_,Heap.get?_push_size _ rfl,rfl,_,rfl⟩⟩
theorem zl (h:PA X es t):PE X (.List es pos) (tLst t):=by
 intro pins s σ H Q I hq;refine wpAny_List_spliced (cf (h pos pins s σ H _ I hq) λus s1 ⟨xs,H1,I1,r,z,q⟩=>⟨by rw[<-r.length];exact z,?_⟩)
 have hf:H1 s1.heap.objs.size=none:=I1.hok.fresh (Nat.le_refl _);refine⟨.ref s1.heap.objs.size,upd H1 s1.heap.objs.size (.lst xs),I1.laid (t':=s1.toks) (λb u e=>Heap.get?_push_of_some _ e) (Nat.le_refl _) ?_,rfl,q _ hf⟩
 exact⟨z,us,0,r,Heap.get?_push_size _ rfl⟩
end
abbrev Sp:=List V->Hp->VK->XK->Prop
abbrev vJ:=List Env->Hp->Shared->XK->Value->Shared->Prop
structure vE (P:Program)(w:World)(K:PySem.W.Frag)(mg:Str->Option Value)(base:Heap)(A:Around)(outer:List Env)(s:Shared)(H:Hp):Prop where
 frames:A.frames=some outer
 mod:Mod K mg base
 bs:∀b o,base.get? b=some o->s.heap.get? b=some o/\H b=none
 bsz:base.objs.size<=s.heap.objs.size
 funs:s.heap.FunFrames base outer
 frf:∀b∈nB outer,H b=none
 hok:HOk P w H s.heap
 bare:AllBare s.gens
def CE (outer:List Env)(P:Program)(w:World)(H:Hp)(s:Shared)(Q:VK)(u:Value)(s':Shared):Prop:=
 ∃v H',s'.os=s.os/\AllBare s'.gens/\Un (nB outer) [] H H' s.heap s'.heap/\HOk P w H' s'.heap/\RelV v u/\Q v H'
def CR (CX:vJ)(outer:List Env)(P:Program)(w:World)(H:Hp)(s:Shared)(Q:VK)(E:XK)(r:Result)(s':Shared):Prop:=
 match r with
 | .ok (.ret u)=>CE outer P w H s Q u s'
 | .ok _=>False
 | .error e=>CX outer H s E e s'
structure nQ (P:Program)(w:World)(K:PySem.W.Frag)(mg:Str->Option Value)(base:Heap)(CX:vJ)(k:Nat)(f:Addr)(fd:FuncData)(ps:List Str)(sp:Sp):Prop where
 len:∀vs H Q E,sp vs H Q E->vs.length=ps.length
 run:∀(A:Around) (outer:List Env) (s:Shared) (H:Hp) (args:Args) (us:List Value) (vs:List V) (Q:VK) (E:XK),Room k A->vE P w K mg base A outer s H->BindsTo s fd args (ps.zip us)->Vals vs us->sp vs H Q E →
  codeAny (model P w) A (.call (.ref f) args) (CR CX outer P w H s Q E) s
section
variable {X:Cx}{pins:List (Addr×Obj)}{σ:St}{H:Hp}{s s':Shared}
theorem Inv.env0 (I:Inv X pins σ H s):vE X.prog X.w X.K X.mg X.base X.A X.stack s H:=
 ⟨I.ok.frames,I.ok.mod,I.bs,Nat.le_trans I.ok.bsz I.sz,I.stack,I.stkFree,I.hok,I.bare⟩
theorem Inv.after {Q:VK}{u:Value}(I:Inv X pins σ H s)(h:CE X.stack X.prog X.w H s Q u s'):EP X pins σ Q u s':=by
 obtain⟨v,H',os,bare,un,hok,r,q⟩:=h;obtain⟨hh,g,d,t,os'⟩:=s';obtain rfl:os'=s.os:=os;exact⟨v,H',I.call (h':=hh) (g':=g) (d':=d) (t':=t) (ch:=[]) un hok bare (λb z=>absurd z (by simp)),r,q⟩
end
def AL (sp:Sp)(dvs:List V)(E:XK)(t:TA):TE:=λσ H Q=>t σ H λvs H1=>sp (vs++dvs) H1 Q E
def Binds (K:PySem.W.Frag)(fd:FuncData)(ps:List Str)(ds:List Value):Prop:=
 ∀(s:Shared) (us:List Value),K.In s.heap->(us++ds).length=ps.length->BindsTo s fd ⟨us,[]⟩ (ps.zip (us++ds))
theorem Binds.all {K:PySem.W.Frag}{fd:FuncData}{ps:List Str}(h:∀us:List Value,us.length=ps.length->bindArgs fd ⟨us,[]⟩=pure (ps.zip us)):Binds K fd ps []:=λs us _ hl=>by
 rw[List.append_nil]at hl ⊢;exact .of_eq (h us hl)
def qm (CX:vJ)(X:Cx)(E:XK):Prop:=∀(pins:List (Addr×Obj)) (σ:St) (H:Hp) (s:Shared) (e:Value) (s':Shared),Inv X pins σ H s->CX X.stack H s E e s'->X.xe e s'
section
variable {X:Cx}{CX:vJ}{k:Nat}{f C:Addr}{fd:FuncData}{ps:List Str}{sp:Sp}{dvs:List V}{ds:List Value}{E:XK}{x m:Str}{p pos apos:Pos}{e o:Expr}{es:List Expr}{ta:TE}{t:TA}
theorem yC {pins:List (Addr×Obj)}{σ:St}{H:Hp}{s:Shared}{Q:VK}{us:List Value}{vs:List V}(F:nQ X.prog X.w X.K X.mg X.base CX k f fd ps sp)(hr:Room k X.A)(hb:Binds X.K fd ps ds)(hd:Vals dvs ds)(hx:qm CX X E)
  (I:Inv X pins σ H s) (r:Vals vs us) (h:sp (vs++dvs) H Q E):wpAny (model X.prog X.w) X.A (call (.ref f) us) (EP X pins σ Q) X.xe s:=by
 have r2:Vals (vs++dvs) (us++ds):=r.append hd
 have hl:(us++ds).length=ps.length:=by rw[<-r2.length];exact F.len _ _ _ _ h
 refine wpAny_call (codeAny_mono (F.run X.A X.stack s H ⟨us,[]⟩ (us++ds) (vs++dvs) Q E hr I.env0 (hb s us I.kIn hl) r2 h) λr s' hq=> ?_)
 cases r with
 | error e=>exact hx pins σ H s e s' I hq
 | ok fl=>
  cases fl with
  | ret u=>exact I.after hq
  | next=>exact False.elim hq
  | brk=>exact False.elim hq
  | cont=>exact False.elim hq
theorem qC (F:nQ X.prog X.w X.K X.mg X.base CX k f fd ps sp)(hr:Room k X.A)(hg:Gl X x)(hm:X.mg x=some (.ref f))(hk:PySem.W.keepIn X.K (.ref f)=true)(hb:Binds X.K fd ps ds)(hd:Vals dvs ds)(hx:qm CX X E)
  (ha:PA X (e::es) t) (hdb:(x == ("__debug__" : Str))=false:=by decide) (he:starEach (e::es) X.env=(false,eval e X.env)::starEach es X.env:=by rfl) (hpl:(backTo pos (starEach es X.env)).any (·.1)=false:=by rfl) :
  PE X (.Call (.Name x p) (e::es) [] pos) (AL sp dvs E t):=by
 intro pins s σ H Q I h;refine wpAny_Call_Name_kw (kh I hg hm ?_ hdb)
 refine PySem.W.callWith_K (h₀:=X.base) I.ok.mod.kin hk (cf (ha pos pins s σ H _ I h) λus s1 ⟨vs,H1,I1,r,q⟩=>⟨I1.kIn,?_⟩) he hpl
 exact yC F hr hb hd hx I1 r q
end
structure ay (N P:List Str)(sc:Scope):Prop where
 kind:sc.kind= .function
 co:sc.isCoroutine=false
 gen:sc.isGenerator=false
 nd:N.Nodup
 pre:N.take P.length=P
 par:∀x∈P,sc.names.lookup x=some .local\/sc.names.lookup x=some .cell
 nofree:∀y∈sc.names,y.2≠ .free
theorem mx {kindOf:Str->Option NameKind}{x:Str}:∀{binds:List (Str×Value)} {m:Str->Option Value},(∀v,(x,v)∉binds)->bindL kindOf binds m x=m x
 | [],_,_=>rfl
 | (n,v)::r,m,h=>by
  unfold bindL;rw[mx λw hw=>h w (List.mem_cons_of_mem _ hw)]
  split
  ·have:x≠n:=by rintro rfl;exact h v List.mem_cons_self
   simp[this]
  ·rfl
theorem mz {kindOf:Str->Option NameKind}{x:Str}:∀{binds:List (Str×Value)} {m:Str->Option Value},(∀v,(x,v)∉binds)->bindC kindOf binds m x=m x
 | [],_,_=>rfl
 | (n,v)::r,m,h=>by
  unfold bindC;rw[mz λw hw=>h w (List.mem_cons_of_mem _ hw)]
  split
  ·rfl
  ·have:x≠n:=by rintro rfl;exact h v List.mem_cons_self
   simp[this]
theorem my {kindOf:Str->Option NameKind}{x:Str}{v:Value}:∀{P:List Str} {vs:List Value} {i:Nat} {m:Str->Option Value},P.Nodup->P[i]? =some x->vs[i]? =some v->kindOf x=some .local →
  bindL kindOf (P.zip vs) m x=some v
 | [],_,_,_,_,h,_,_=>by simp at h
 | _::_,[],_,_,_,_,h,_=>by simp at h
 | p::P,w::vs,0,m,nd,h1,h2,hk=>by
  simp at h1 h2;subst h1;subst h2
  show bindL kindOf ((p,w)::P.zip vs) m p=_
  unfold bindL;rw[mx λv hv=>(List.nodup_cons.mp nd).1 (List.of_mem_zip hv).1,if_pos hk]
  simp
 | p::P,w::vs,i+1,m,nd,h1,h2,hk=>by
  show bindL kindOf ((p,w)::P.zip vs) m x=_
  unfold bindL;exact my (i:=i) (List.nodup_cons.mp nd).2 (by simpa using h1) (by simpa using h2) hk
theorem mB {kindOf:Str->Option NameKind}{x:Str}{v:Value}:∀{P:List Str} {vs:List Value} {i:Nat} {m:Str->Option Value},P.Nodup->P[i]? =some x->vs[i]? =some v->kindOf x≠some .local →
  bindC kindOf (P.zip vs) m x=some v
 | [],_,_,_,_,h,_,_=>by simp at h
 | _::_,[],_,_,_,_,h,_=>by simp at h
 | p::P,w::vs,0,m,nd,h1,h2,hk=>by
  simp at h1 h2;subst h1;subst h2
  show bindC kindOf ((p,w)::P.zip vs) m p=_
  unfold bindC;rw[mz λv hv=>(List.nodup_cons.mp nd).1 (List.of_mem_zip hv).1,if_neg hk]
  simp
 | p::P,w::vs,i+1,m,nd,h1,h2,hk=>by
  show bindC kindOf ((p,w)::P.zip vs) m x=_
  unfold bindC;exact mB (i:=i) (List.nodup_cons.mp nd).2 (by simpa using h1) (by simpa using h2) hk
def start (N:List Str)(vs:List V):St:=vs.map some++List.replicate (N.length - vs.length) none
def ju (CX:vJ)(P:Program)(w:World)(K:PySem.W.Frag)(mg:Str->Option Value)(base:Heap)(N:List Str)(qual:Str)(scope:Scope)(f:Addr)(cd:Value)(A:Around)(outer:List Env)(s:Shared)(H:Hp)(E:XK):Cx where
 prog:=P
 w:=w
 K:=K
 mg:=mg
 base:=base
 A:=A.deeper (envOfC qual scope s.heap.objs.size f cd)
 N:=N
 s₀:=s
 H₀:=H
 env:=envOfC qual scope s.heap.objs.size f cd
 outer:=outer
 stack:=envOfC qual scope s.heap.objs.size f cd::outer
 ex:=[]
 calm:=true
 fn:=λ_=>true
 pn:=[]
 xe:=λe s'=>wpAny (model P w) (A.deeper (envOfC qual scope s.heap.objs.size f cd)) (leaving (envOfC qual scope s.heap.objs.size f cd) e) (λ_ s''=>CX outer H s E e s'') (λe' s''=>CX outer H s E e' s'') s'
theorem pD {sc:Scope}{n:Nat}{x:Str}(h:sc.names.lookup x=some .cell):∃c,(cellsFrom n sc.names []).lookup x=some c:=by
 have q:=PySem.W.cellsFrom_some sc.names n [] (.inl h);exact Option.isSome_iff_exists.mp q
theorem mi {CX:vJ}{P:Program}{w:World}{K:PySem.W.Frag}{mg:Str->Option Value}{base:Heap}{N ps:List Str}{qual:Str}{scope:Scope}{f:Addr}{cd:Value}{A:Around}{outer:List Env}{s s1:Shared}{H:Hp}{E:XK}{us:List Value}{vs:List V}
  (S:ay N ps scope) (hd:A.handled=none) (e0:vE P w K mg base A outer s H) (hl:vs.length=ps.length) (r:Vals vs us)
  (x:InCallC s s.heap.objs.size (bindL (envOfC qual scope s.heap.objs.size f cd).kindOf (ps.zip us) λ_=>none) (cellsFrom (s.heap.objs.size+1) scope.names []) (bindC (envOfC qual scope s.heap.objs.size f cd).kindOf (ps.zip us) λ_=>none) s1) :
  Inv (ju CX P w K mg base N qual scope f cd A outer s H E) [] (start N vs) H s1:=by
 have hpl:ps.length<=N.length:=by have:=congrArg List.length S.pre;rw[List.length_take]at this;omega
 obtain⟨h1,tk,rfl,hk⟩:=x.done
 have noA:∀b:Addr,b∉(ju CX P w K mg base N qual scope f cd A outer s H E).ex:=λb z=>absurd (show b∈([]:List Addr)from z) (by simp)
 refine⟨⟨e0.mod,S.kind,rfl,rfl,Nat.le_refl _,λy z c h1 h2=> ?_,λy hy=> ?_,λy c _ h=> ?_,λ_=>hd,Around.frames_deeper e0.frames,.inr ⟨rfl,rfl⟩,λb z=>absurd z (noA b),e0.bs,e0.bsz,λb _ _=>noA b,λb z=>absurd z (noA b),e0.funs,e0.frf⟩,
  rfl,e0.bare,Un.kept hk,⟨_,x.toInCall.ns,λi y v h1 h2 h3=> ?_⟩,λy c h=>⟨_,x.cell y c h⟩,e0.hok.fresh (Nat.le_refl _),λy c h=> ?_,λp hp=>absurd (show p∈([]:List (Addr×Obj))from hp) (by simp),e0.hok.kept hk,?_⟩
 ·exact name_of_addr x.apart (PySem.mem_of_lookup h1) (PySem.mem_of_lookup h2)
 ·have hy:scope.names.lookup y=some .cell\/scope.names.lookup y=some .free:=hy
  rcases hy with hy | hy
  ·exact pD hy
  ·exact absurd rfl (S.nofree _ (PySem.mem_of_lookup hy))
 ·exact Nat.le_of_lt (x.above y c (PySem.mem_of_lookup h))
 ·have hi:i<vs.length:=by
   unfold start at h2
   by_cases hi:i<vs.length
   ·exact hi
   ·rw[List.getElem?_append_right (by simpa using hi)]at h2
    rw[List.getElem?_replicate]at h2
    split at h2 <;> cases h2
  have ha:vs[i]? =some v:=by
   unfold start at h2;rw[List.getElem?_append_left (by simpa using hi),List.getElem?_map]at h2
   cases e:vs[i]? with
   | none=>rw[e]at h2;cases h2
   | some a=>rw[e]at h2;cases h2;rfl
  obtain⟨u,hu,rv⟩:=r.get ha
  have hp:ps[i]? =some y:=by
   rw[<-S.pre,List.getElem?_take_of_lt (by omega)];exact h1
  have ndP:ps.Nodup:=by rw[<-S.pre];exact S.nd.sublist (List.take_sublist _ _)
  refine⟨u,rv,?_⟩
  rcases S.par y (List.mem_of_getElem? hp)with k | k
  ·exact .inl ⟨k,my ndP hp hu k⟩
  ·obtain⟨c,e⟩:=pD (n:=s.heap.objs.size+1) k
   refine .inr ⟨.inl k,c,e,?_⟩
   have q:=x.cell y c e;rw[mB ndP hp hu (by show scope.names.lookup y≠_;rw[k];decide)]at q
   exact q
 ·exact e0.hok.fresh (Nat.le_of_lt (x.above y c (PySem.mem_of_lookup h)))
 ·unfold start
  show _=N.length
  rw[List.length_append,List.length_map,List.length_replicate];omega
theorem BP {CX:vJ}{P:Program}{w:World}{K:PySem.W.Frag}{mg:Str->Option Value}{base:Heap}{k:Nat}{f:Addr}{name qual:Str}{params:Arguments}{body:List Stmt}{scope:Scope}{dV kV doc pm cdv ct oc:Value}{an od:Option Addr}
  {osl:Array (Option Value)} {N ps:List Str} {sp:Sp} (lk:K.lookup f=some ⟨oc,od,.func (PySem.W.fnOf name qual params body scope dV kV doc pm an cdv ct),osl⟩) (hcd:PySem.W.codeIn K cdv qual=true) (S:ay N ps scope)
  (len:∀vs H Q E,sp vs H Q E->vs.length=ps.length)
  (hbody:∀(A:Around) (outer:List Env) (s:Shared) (H:Hp) (vs:List V) (Q:VK) (E:XK),Room k (A.deeper (envOfC qual scope s.heap.objs.size f cdv))->sp vs H Q E →
   ∃t,PSs (ju CX P w K mg base N qual scope f cdv A outer s H E) body t/\t { nx:=λ_ H'=>Q .non H',rt:=Q } (start N vs) H) :
  nQ P w K mg base CX (k+1) f (PySem.W.fnOf name qual params body scope dV kV doc pm an cdv ct) ps sp:=by
 refine⟨len,λA outer s H args us vs Q E hr e0 hb r hsp=> ?_⟩
 have hl:=len _ _ _ _ hsp
 have KX:K.In s.heap:=e0.mod.kin.keeps λb o e=>(e0.bs b o e).1
 have lim:s.heap.NoLimit:=e0.mod.nolimit.keeps λb o e=>(e0.bs b o e).1
 have hkind:∀y∈ps.zip us,scope.names.lookup y.1=some .local\/(scope.names.lookup y.1=some .cell/\((cellsFrom (s.heap.objs.size+1) scope.names []).lookup y.1).isSome=true):=λ⟨n,v⟩ hy=>by
  rcases S.par n (List.of_mem_zip hy).1 with q | q
  ·exact .inl q
  ·exact .inr ⟨q,PySem.W.cellsFrom_some _ _ _ (.inl q)⟩
 refine codeAny_call_function hr.depth (KX _ _ lk) rfl S.co S.gen rfl (PySem.W.codeRec_of KX hcd) (hb _ _ _ _ ?_)
 refine wpAny_newFunctionEnv_cells S.kind hkind λenv he s1 x=> ?_
 subst he;refine⟨lim.keeps x.toInCall.keep,codeAny_func ?_⟩
 obtain⟨t,ht,hq⟩:=hbody A outer s H vs Q E (hr.deeper _) hsp
 have I:Inv (ju CX P w K mg base N qual scope f cdv A outer s H E) [] (start N vs) H s1:=mi S hr.hd e0 hl r x;refine wpAny_mono (ht [] s1 (start N vs) H _ I hq) (λfl s' hs=> ?_) λe s' hs=>hs
 have fin:∀{σ':St} {H':Hp} {v:V} {u:Value},Inv (ju CX P w K mg base N qual scope f cdv A outer s H E) [] σ' H' s'->RelV v u->Q v H'->CE outer P w H s Q u s':=
  λ{σ' H' v u} J rv q=>⟨v,H',J.os,J.bare,J.base,J.hok,rv,q⟩
 cases fl with
 | ret u=>
  obtain⟨v,σ',H',J,rv,q⟩:=hs
  exact fin J rv q
 | next=>
  obtain⟨σ',H',J,q⟩:=hs
  exact fin (v:=V.non) (u:=Value.none) J rfl q
 | brk=>
  obtain⟨_,_,_,q⟩:=hs
  exact False.elim q
 | cont=>
  obtain⟨_,_,_,q⟩:=hs;exact False.elim q
end L2
namespace HT
open PySem PyProof.Rows
section
variable {prog:Program}{w:World}{A:Around}{E:Value->Shared->Prop}{s:Shared}
theorem cat_tup {t b:Addr}{vs ws:List Value}{Q:Value->Shared->Prop}(ht:IsTup s.heap t vs.toArray)(hb:IsTup s.heap b ws.toArray)(hv:vs≠ [])
  (h1:ws= []->Q (.ref t) s) (h2:ws≠ []->Q (.ref s.heap.objs.size) { s with heap:=s.heap.push { cls:=.type "tuple",data:=.seq (vs++ws).toArray } })
  (hsz:vs.length+ws.length<=sizeLine):wpAny (model prog w) A (binaryOp .Add (.ref t) (.ref b)) Q E s:=by
 obtain⟨⟨cls,dd,data,sl⟩,ho,hc,n,hd⟩:=id ht;obtain⟨⟨cls2,dd2,data2,sl2⟩,ho2,hc2,n2,hd2⟩:=id hb;simp only at hc hd hc2 hd2;subst hc hd hc2 hd2
 have e:vs.toArray++ws.toArray=(vs++ws).toArray:=by simp
 by_cases hw:ws= []
 ·exact concat_meets ⟨_,ho,rfl⟩ ⟨_,ho2,rfl⟩ noFill_tuple_add seq_tuple_add PySem.F.slot_tuple_add PySem.F.entry_tuple_add (PySem.F.args_tuple_add_2 _ _)
   (tuple_addW1 t b vs.toArray ws.toArray n n2 dd dd2 sl sl2 (by simpa using hv) (by simp[hw])) ⟨ho,ho2,h1 hw⟩
 ·refine concat_meets ⟨_,ho,rfl⟩ ⟨_,ho2,rfl⟩ noFill_tuple_add seq_tuple_add PySem.F.slot_tuple_add PySem.F.entry_tuple_add (PySem.F.args_tuple_add_2 _ _)
   (tuple_addW2 t b vs.toArray ws.toArray n n2 dd dd2 sl sl2 (by simpa using hv) (by simpa using hw) (by rw[List.size_toArray,List.size_toArray];exact hsz)) ⟨ho,ho2,?_⟩
  rw[e];exact h2 hw
def sIx (n d:Nat):Option Int->Nat
 | none=>d
 | some v=>if v<0 then(v+(n:Int)).toNat else min v.toNat n
theorem sIx_none (n d:Nat):sIx n d none=d:=rfl
theorem sIx_nat (n d k:Nat):sIx n d (some (k:Int))=min k n:=by
 show(if (k:Int)<0 then((k:Int)+(n:Int)).toNat else min (k:Int).toNat n)=min k n
 rw[if_neg (by omega),Int.toNat_natCast]
theorem yB (n d:Nat)(hd:d<=n)(o:Option Int):sIx n d o<=n:=by
 cases o with
 | none=>exact hd
 | some v=>
  show(if v<0 then(v+(n:Int)).toNat else min v.toNat n)<=n
  by_cases hv:v<0
  ·rw[if_pos hv];omega
  ·rw[if_neg hv];exact Nat.min_le_right _ _
theorem rk (v:Int)(n d:Nat):(if v<0 then max (v+(n:Int)) 0 else min v (n:Int))=((sIx n d (some v):Nat):Int):=by
 show(if v<0 then max (v+(n:Int)) 0 else min v (n:Int))=(((if v<0 then(v+(n:Int)).toNat else min v.toNat n):Nat):Int)
 by_cases hv:v<0
 ·simp only[if_pos hv];omega
 ·simp only[if_neg hv];omega
theorem qk (lo hi:Option Int)(n:Nat):Builtin.Slice.sliceAdjust lo hi 1 (n:Int)=(((sIx n 0 lo:Nat):Int),((sIx n n hi:Nat):Int)):=by
 have h1:¬ ((1:Int)<0):=by omega
 unfold Builtin.Slice.sliceAdjust;simp only[h1,if_false];refine Prod.ext ?_ ?_
 ·cases lo with
  | none=>rfl
  | some v=>exact rk v n 0
 ·cases hi with
  | none=>rfl
  | some v=>exact rk v n n
theorem pT (i j:Nat):Builtin.Slice.slicePlaces (i:Int) (j:Int) 1=j - i:=by
 unfold Builtin.Slice.slicePlaces
 have h1:(1:Int) > 0:=by omega
 simp only[h1,if_true,Int.ediv_one]
 split <;> omega
theorem kC {v:Value}{o:Option Int}{Q:Option Int->Shared->Prop}(p:IsPart v o)(h:Q o s):wpAny (model prog w) A (Builtin.Slice.slicePartIndex v) Q E s:=by
 cases p with
 | none=>exact slicePart_none h
 | int i t=>exact slicePart_int h
theorem fL {sl:Addr}{vl vu:Value}{lo hi:Option Int}{n:Nat}{Q:Int×Int×Nat->Shared->Prop}(hs:s.heap.IsSliceOf sl vl vu .none)(pl:IsPart vl lo)(pu:IsPart vu hi)
  (h:Q (((sIx n 0 lo:Nat):Int),1,sIx n n hi - sIx n 0 lo) s):wpAny (model prog w) A (Builtin.Slice.sliceApplied (.ref sl) (pure (n:Int))) Q E s:=by
 obtain⟨os,hos,hcs,hds⟩:=id hs;unfold Builtin.Slice.sliceApplied Builtin.Slice.sliceFields;refine wpAny_bind (wpAny_bind (wpAny_field hos hds (x:=vl) rfl (wpAny_bind (wpAny_field hos hds (x:=vu) rfl (wpAny_bind (wpAny_field hos hds (x:=.none) rfl (wpAny_pure ?_)))))))
 refine wpAny_bind (slicePart_none ?_)
 show wpAny _ _ (if ((1:Int) == 0)=true then _ else _) _ _ s
 rw[if_neg (by decide)]
 refine wpAny_bind (kC pl (wpAny_bind (kC pu (wpAny_bind (wpAny_pure ?_)))))
 show wpAny _ _ (match Builtin.Slice.sliceAdjust lo hi 1 (n:Int)with | (lo,hi)=>pure (lo,(1:Int),Builtin.Slice.slicePlaces lo hi 1)) _ _ s
 rw[qk lo hi n]
 show wpAny _ _ (pure (((sIx n 0 lo:Nat):Int),(1:Int),Builtin.Slice.slicePlaces ((sIx n 0 lo:Nat):Int) ((sIx n n hi:Nat):Int) 1)) _ _ s
 rw[pT];exact wpAny_pure h
theorem tS (xs:Array Value)(i k:Nat):((List.range k).filterMap λ(m:Nat)=>xs[((i:Int)+(m:Int)*1).toNat]?).toArray=((xs.toList.drop i).take k).toArray:=by
 have e:(λ(m:Nat)=>xs[((i:Int)+(m:Int)*1).toNat]?)=λm=>xs[i+m]?:=by
  funext m
  have:((i:Int)+(m:Int)*1).toNat=i+m:=by omega
  rw[this]
 rw[e]
 have:=pick_run xs i k;rw[List.filterMap_map]at this
 have e2:((λx=>xs[x]?)∘λx=>i+x)=λm=>xs[i+m]?:=rfl
 rw[e2]at this;rw[this]
theorem getItem_tuple_cut {t sl:Addr}{items:Array Value}{vl vu:Value}{lo hi:Option Int}{Q:Value->Shared->Prop}(ht:IsTup s.heap t items)(hs:s.heap.IsSliceOf sl vl vu .none)(pl:IsPart vl lo)(pu:IsPart vu hi)
  (hw:¬ (sIx items.size 0 lo=0/\sIx items.size items.size hi=items.size))
  (h:Q (.ref s.heap.objs.size) { s with heap:=s.heap.push { cls:=.type "tuple",data:=.seq ((items.toList.drop (sIx items.size 0 lo)).take (sIx items.size items.size hi - sIx items.size 0 lo)).toArray } })
  (hsz:items.size<=sizeLine):wpAny (model prog w) A (getItem (.ref t) (.ref sl)) Q E s:=by
 have htake:sizeOk (.seq ((items.toList.drop (sIx items.size 0 lo)).take (sIx items.size items.size hi - sIx items.size 0 lo)).toArray):=by
  show((items.toList.drop (sIx items.size 0 lo)).take (sIx items.size items.size hi - sIx items.size 0 lo)).toArray.size<=sizeLine
  rw[List.size_toArray,List.length_take,List.length_drop,Array.length_toList];omega
 have hj:sIx items.size items.size hi<=items.size:=yB _ _ (Nat.le_refl _) hi;obtain⟨os,hos,hcs,hds⟩:=id hs
 have hTs:s.TypeIs (.ref sl) "slice":=⟨os,hos,hcs⟩;unfold getItem
 try with_reducible refine wpAny_holding ?_
 first | refine wpAny_bind (wpAny_pure ?_) | skip
 refine wpAny_bind (wpAny_sequenceKey ht.typeIs (by decide) ?_)
 refine wpAny_bind (wpAny_callSpecial?_slot (name:=Str.ofString "__getitem__") ht.typeIs PyProof.Rows.slot_tuple_getitem
  (wpAny_call_entry PyProof.Rows.slot_tuple_getitem ht.typeIs entry_tuple_getitem ?_ (args_tuple_getitem _ _)))
 show wpAny _ _ (Builtin.Tuple.tupleItemsOf (.ref t) >>= _) _ _ s
 refine wpAny_bind (tupleItemsOf_ ht ?_)
 refine wpAny_bind (wpAny_typeOf hTs ?_)
 rw[if_pos (by decide)]
 refine wpAny_bind (fL hs pl pu ?_)
 have hno:¬ ((((sIx items.size 0 lo:Nat):Int) == 0&&(1:Int) == 1&&(sIx items.size items.size hi - sIx items.size 0 lo) == items.size)=true):=by
  intro q;rw[Bool.and_eq_true,Bool.and_eq_true]at q
  have q1:((sIx items.size 0 lo:Nat):Int)=0:=eq_of_beq q.1.1
  have q2:sIx items.size items.size hi - sIx items.size 0 lo=items.size:=eq_of_beq q.2;exact hw ⟨by omega,by omega⟩
 show wpAny _ _ (if (((sIx items.size 0 lo:Nat):Int) == 0&&(1:Int) == 1&&(sIx items.size items.size hi - sIx items.size 0 lo) == items.size)=true then _ else _) _ _ s
 rw[if_neg hno,tS]
 first
  | exact wpAny_bind (m:=Builtin.Tuple.tupleExact _) (wpAny_newObj_type (wpAny_pure ⟨_,rfl,wpAny_pure h⟩) htake)
  | exact wpAny_bind (m:=Builtin.Tuple.tupleExact _) (wpAny_newObj_type (wpAny_bind (wpAny_pure (wpAny_pure ⟨_,rfl,wpAny_pure h⟩))) htake)
  | exact wpAny_bind (wpAny_bind (m:=Builtin.Tuple.tupleExact _) (wpAny_newObj_type (wpAny_pure (wpAny_pure ⟨_,rfl,wpAny_pure h⟩)) htake))
  | exact wpAny_bind (wpAny_bind (m:=Builtin.Tuple.tupleExact _) (wpAny_newObj_type (wpAny_pure ⟨_,rfl,wpAny_pure h⟩) htake))
end
end HT
namespace L2
open PySem PySem.Spec PyProof.Rows
abbrev TO:=St->Hp->(Option Int->Hp->Prop)->Prop
def PO (X:Cx)(e:Option Expr)(t:TO):Prop:=
 ∀(pins:List (Addr×Obj)) (s:Shared) (σ:St) (H:Hp) (Q:Option Int->Hp->Prop),Inv X pins σ H s->t σ H Q →
  wpAny (model X.prog X.w) X.A (evalPart e X.env) (λu s'=> ∃o H',Inv X pins σ H' s'/\IsPart u o/\Q o H') X.xe s
def vV:TO:=λ_ H Q=>Q none H
def AC (t:TE):TO:=λσ H Q=>t σ H λx H1=> ∃i,x= .int i/\Q (some i) H1
theorem qd {ns:List Int}:∀{us:List Value},Vals (ns.map V.int) us->IntsAre us ns:=by
 induction ns with
 | nil=>intro us r;rw[List.map_nil]at r;cases r;exact .nil
 | cons n ns ih=>
  intro us r;rw[List.map_cons]at r
  cases r with
  | cons r1 r2=>
   obtain⟨t,e⟩:=r1;subst e;exact .cons n t (ih r2)
section
variable {X:Cx}{e:Expr}{te:TE}{lo hi:Option Expr}{tl th:TO}{pos p2:Pos}
theorem wK:PO X none vV:=by
 intro pins s σ H Q I h;rw[evalPart_none];exact wpAny_pure ⟨none,H,I,.none,h⟩
theorem wJ (h:PE X e te):PO X (some e) (AC te):=by
 intro pins s σ H Q I hw;rw[evalPart_some];refine cf (h pins s σ H _ I hw) λu s1 hh_=> ?_
 obtain⟨x,H1,I1,r1,q1⟩:=hh_;obtain⟨i,rfl,q⟩:=q1;obtain⟨t,rfl⟩:=r1;exact⟨some i,H1,I1,.int i t,q⟩
def SlR (X:Cx)(r:V->Option Int->Option Int->Hp->VK->Prop):Prop:=
 ∀(pins:List (Addr×Obj)) (s:Shared) (σ:St) (H:Hp) (x:V) (v vl vu:Value) (lo hi:Option Int) (sl:Addr) (Q:VK),Inv X pins σ H s->RelV x v->s.heap.IsSliceOf sl vl vu .none->IsPart vl lo->IsPart vu hi->r x lo hi H Q →
  ∃T id,typeLookup (.type T) "__getitem__" =pure (some (.builtin id))/\s.TypeIs v T/\wpAny (model X.prog X.w) X.A (getItem v (.ref sl)) (EP X pins σ Q) X.xe s
theorem SlR.or {r r':V->Option Int->Option Int->Hp->VK->Prop}(h:SlR X r)(h':SlR X r'):SlR X (λx lo hi H Q=>r x lo hi H Q\/r' x lo hi H Q):=by
 intro pins s σ H x v vl vu lo hi sl Q I rx hs pl pu q;rcases q with q | q
 ·exact h pins s σ H x v vl vu lo hi sl Q I rx hs pl pu q
 ·exact h' pins s σ H x v vl vu lo hi sl Q I rx hs pl pu q
def tSl (r:V->Option Int->Option Int->Hp->VK->Prop)(te:TE)(tl th:TO):TE:=λσ H Q=>te σ H λx H1=>tl σ H1 λl H2=>th σ H2 λu H3=>r x l u H3 Q
theorem tU {r:V->Option Int->Option Int->Hp->VK->Prop}(hr:SlR X r)(he:PE X e te)(hl:PO X lo tl)(hu:PO X hi th):PE X (.Subscript e (.Slice lo hi none p2) pos) (tSl r te tl th):=by
 intro pins s σ H Q I h;refine Subscript_ (cf (he pins s σ H _ I h) λv s1 hh_=> ?_)
 obtain⟨x,H1,I1,r1,q1⟩:=hh_;refine wpAny_Slice (cf (hl pins s1 σ H1 _ I1 q1) λvl s2 ⟨l,H2,I2,pl,q2⟩=>cf (hu pins s2 σ H2 _ I2 q2) λvu s3 hh_=> ?_)
 obtain⟨u,H3,I3,pu,q3⟩:=hh_;rw[evalPart_none];refine wpAny_pure ?_
 have I4:Inv X pins σ H3 { s3 with heap:=s3.heap.push { cls:=.type "slice",data:=.fields #[vl,vu,.none] } }:=I3.kept (t':=s3.toks) λb ob q=>Heap.get?_push_of_some _ q
 obtain⟨T,id,hT,ht,hg⟩:=hr pins { s3 with heap:=s3.heap.push { cls:=.type "slice",data:=.fields #[vl,vu,.none] } } σ H3 x v vl vu l u s3.heap.objs.size Q I4 r1 (Heap.IsSliceOf.new ..) pl pu q3
 show wpAny (model X.prog X.w) X.A (subscriptTail e (.Slice lo hi none p2) v (.ref s3.heap.objs.size)) (EP X pins σ Q) X.xe { s3 with heap:=s3.heap.push { cls:=.type "slice",data:=.fields #[vl,vu,.none] } }
 exact tail_any (ops:=[.ref s3.heap.objs.size,v]) ht hT hg (by with_unfolding_all rfl)
def pA (xs:List V)(lo hi:Option Int):List V:=(xs.drop (HT.sIx xs.length 0 lo)).take (HT.sIx xs.length xs.length hi - HT.sIx xs.length 0 lo)
theorem jN (xs:List V)(lo hi:Option Int):(pA xs lo hi).length<=xs.length:=by
 unfold pA;rw[List.length_take,List.length_drop];omega
def rSlT (K:PySem.W.Frag):V->Option Int->Option Int->Hp->VK->Prop:=λx lo hi H Q=> ∃a xs,x= .ref a/\SqT K H a xs ∧
 ¬(HT.sIx xs.length 0 lo=0/\HT.sIx xs.length xs.length hi=xs.length)/\∀p,H p=none->Q (.ref p) (upd H p (.tup (pA xs lo hi)))
theorem sl_tup:SlR X (rSlT X.K):=by
 intro pins s σ H x v vl vu lo hi sl Q I rx hs pl pu h;obtain⟨a,xs,rfl,hx,hw,q⟩:=h;cases rx;obtain⟨its,r,ht,hz⟩:=I.tuple hx
 have hlen:its.toArray.size=xs.length:=by rw[List.size_toArray];exact r.length.symm
 refine⟨"tuple",_,PyProof.Rows.slot_tuple_getitem.lookup,ht.typeIs,?_⟩
 refine HT.getItem_tuple_cut ht hs pl pu (by rw[hlen];exact hw) ?_ (by rw[hlen];exact hz)
 rw[hlen];refine⟨.ref s.heap.objs.size,_,I.laid (t':=s.toks) (o:=.tup (pA xs lo hi)) (λb ob q=>Heap.get?_push_of_some _ q) (Nat.le_refl _) ?_,rfl,q _ (I.hok.fresh (Nat.le_refl _))⟩
 exact⟨Nat.le_trans (jN xs lo hi) hz,_,(r.drop (HT.sIx xs.length 0 lo)).take (HT.sIx xs.length xs.length hi - HT.sIx xs.length 0 lo),IsTup.new _ _⟩
def AS (K:PySem.W.Frag):R2:=λx y H Q=> ∃a b xs ys,x= .ref a/\y= .ref b/\SqT K H a xs/\SqT K H b ys/\xs≠ []/\xs.length+ys.length<=sizeLine ∧
 (ys= []->Q (.ref a) H)/\(ys≠ []->∀p,H p=none->Q (.ref p) (upd H p (.tup (xs++ys))))
theorem Vals.nil_iff {xs:List V}{us:List Value}(r:Vals xs us):us= [] ↔xs= []:=by
 cases r with
 | nil=>simp
 | cons _ _=>simp
theorem wY:mG X (binaryOp .Add) (AS X.K):=by
 intro pins s σ H x y v u Q I rx ry h;obtain⟨a,b,xs,ys,rfl,rfl,ha,hb,hx,hz,q1,q2⟩:=h;cases rx;cases ry;obtain⟨its,r1,p1,_⟩:=I.tuple ha;obtain⟨its2,r2,p2,_⟩:=I.tuple hb;refine HT.cat_tup p1 p2 (λz=>hx (r1.nil_iff.mp z)) (λz=>⟨.ref a,H,I,rfl,q1 (r2.nil_iff.mp z)⟩) (λz=> ?_) (by rw[<-r1.length,<-r2.length];exact hz)
 refine⟨.ref s.heap.objs.size,_,I.laid (t':=s.toks) (o:=.tup (xs++ys)) (λb ob q=>Heap.get?_push_of_some _ q) (Nat.le_refl _) ?_,rfl,q2 (λw=>z (r2.nil_iff.mpr w)) _ (I.hok.fresh (Nat.le_refl _))⟩
 exact⟨by rw[List.length_append];exact hz,_,r1.append r2,IsTup.new _ _⟩
end
def ixN (n:Nat)(i:Int):Option Nat:=if 0<=i then(if i<n then some i.toNat else none)else if -(n:Int)<=i then some (i+n).toNat else none
def atI {α:Type}(xs:List α)(i:Int):Option α:=(ixN xs.length i).bind λj=>xs[j]?
theorem xm {n:Nat}{i:Int}{j:Nat}(h:ixN n i=some j):seqIndex? i n=some j/\j<n/\-(n:Int)<=i/\i<n:=by
 unfold ixN at h
 by_cases h0:0<=i
 ·rw[if_pos h0]at h
  by_cases h1:i<n
  ·rw[if_pos h1]at h
   have e:i.toNat=j:=Option.some.inj h;exact⟨by rw[seqIndex_of h0 h1,e],by omega,by omega,h1⟩
  ·rw[if_neg h1]at h;cases h
 ·rw[if_neg h0]at h
  by_cases h1 : -(n:Int)<=i
  ·rw[if_pos h1]at h
   have e:(i+n).toNat=j:=Option.some.inj h;exact⟨by rw[seqIndex_neg (by omega) h1,e],by omega,h1,by omega⟩
  ·rw[if_neg h1]at h;cases h
theorem nM {α:Type}{xs:List α}{i:Int}{v:α}(h:atI xs i=some v):∃j,seqIndex? i xs.length=some j/\xs[j]? =some v/\j<xs.length/\-(xs.length:Int)<=i/\i<xs.length:=by
 unfold atI at h
 cases e:ixN xs.length i with
 | none=>rw[e]at h;cases h
 | some j=>
  rw[e]at h;obtain⟨h1,h2,h3,h4⟩:=xm e;exact⟨j,h1,h,h2,h3,h4⟩
def rA (b:Expr):Prop:=∀o i,subscripted b false o i=operate [o,i] (getItem o i)
def IxR (X:Cx)(r:R2):Prop:=
 ∀(value slice:Expr) (pins:List (Addr×Obj)) (s:Shared) (σ:St) (H:Hp) (x y:V) (v u:Value) (Q:VK),Inv X pins σ H s->RelV x v->RelV y u->r x y H Q →
  subscripted slice false v u=operate [v,u] (getItem v u)->wpAny (model X.prog X.w) X.A (subscriptTail value slice v u) (EP X pins σ Q) X.xe s
def MtR (X:Cx)(id:String)(r:V->List V->Hp->VK->Prop):Prop:=
 ∀(pins:List (Addr×Obj)) (s:Shared) (σ:St) (H:Hp) (x:V) (xs:List V) (v:Value) (us:List Value) (Q:VK),Inv X pins σ H s->RelV x v->Vals xs us->r x xs H Q →
  wpAny (model X.prog X.w) X.A (call (.builtin id) (v::us)) (EP X pins σ Q) X.xe s
section
variable {X:Cx}{a b:Expr}{ta tb:TE}{pos:Pos}
theorem IxR.or {r r':R2}(h:IxR X r)(h':IxR X r'):IxR X (λx y H Q=>r x y H Q\/r' x y H Q):=by
 intro value slice pins s σ H x y v u Q I rx ry q hs;rcases q with q | q
 ·exact h value slice pins s σ H x y v u Q I rx ry q hs
 ·exact h' value slice pins s σ H x y v u Q I rx ry q hs
def AR (K:PySem.W.Frag):R2:=λx y H Q=> ∃p xs i v,x= .ref p/\y= .int i/\SqL K H p xs/\atI xs i=some v/\Q v H
def AO (K:PySem.W.Frag):R2:=λx y H Q=> ∃p xs i v,x= .ref p/\y= .int i/\SqT K H p xs/\atI xs i=some v/\Q v H
def AQ:R2:=λx y H Q=> ∃z i c,x= .str z/\y= .int i/\z.length<=sizeLine/\atI z.cps.toList i=some c/\Q (.str ⟨#[c]⟩) H
theorem ix_list:IxR X (AR X.K):=by
 intro value slice pins s σ H x y v u Q I rx ry h hs;obtain⟨p,xs,i,z,rfl,rfl,hq,he,q⟩:=h;cases rx;obtain⟨t,rfl⟩:=ry;obtain⟨its,r,pl,hz⟩:=I.list hq;obtain⟨j,h1,h2,h3,h4,h5⟩:=nM he;obtain⟨w,ew,rw'⟩:=r.get h2
 have hl:=r.length
 have hn:=k4
 have fin:EP X pins σ Q w s:=⟨z,H,I,rw',q⟩
 by_cases h0:0<=i
 ·have hj:i.toNat=j:=by
   rw[seqIndex_of h0 h5]at h1;exact Option.some.inj h1
  exact item_listR pl.isList h0 (by omega) (by rw[hj];simpa using ew) fin hs
 ·have hj:(i+(its.toArray.size:Int)).toNat=j:=by
   rw[seqIndex_neg (by omega) h4]at h1
   rw[List.size_toArray,<-hl];exact Option.some.inj h1
  exact subscriptTail_builtinR (x:=w) pl.isList.typeIs slot_list_getitem.lookup
   (wpAny_getItem_list_neg (Q:=λr s'=>r=w/\EP X pins σ Q r s') pl.isList (by omega) (by rw[List.size_toArray] <;> omega) (by omega) (by rw[hj];simpa using ew) ⟨rfl,fin⟩) hs
theorem ix_tup:IxR X (AO X.K):=by
 intro value slice pins s σ H x y v u Q I rx ry h hs;obtain⟨p,xs,i,z,rfl,rfl,hq,he,q⟩:=h;cases rx;obtain⟨t,rfl⟩:=ry;obtain⟨its,r,pl,hz⟩:=I.tuple hq;obtain⟨j,h1,h2,h3,h4,h5⟩:=nM he;obtain⟨w,ew,rw'⟩:=r.get h2
 have hl:=r.length
 have hn:=k4
 have fin:EP X pins σ Q w s:=⟨z,H,I,rw',q⟩
 exact subscriptTail_builtinR (x:=w) pl.typeIs slot_tuple_getitem.lookup
  (getItem_tuple (j:=j) (Q:=λr s'=>r=w/\EP X pins σ Q r s') pl (by omega) (by omega) (by rw[List.size_toArray,<-hl];exact h1) (by simpa using ew) ⟨rfl,fin⟩) hs
theorem zQ:IxR X AQ:=by
 intro value slice pins s σ H x y v u Q I rx ry h hs;obtain⟨z,i,c,rfl,rfl,hz,he,q⟩:=h;obtain⟨t,rfl⟩:=rx;obtain⟨t',rfl⟩:=ry;obtain⟨j,h1,h2,h3,h4,h5⟩:=nM he
 have hl:z.cps.toList.length=z.length:=by simp[Str.length]
 rw[hl]at h1 h4 h5
 have hn:=k4
 exact tail_any (typeIs_str s z t) slot_str_getitem.lookup (getItem_str (c:=c) (by
  have e1:decide (i< -(2 ^ 63:Int))=false:=decide_eq_false (by omega)
  have e2:decide (i ≥ 2 ^ 63)=false:=decide_eq_false (by omega)
  rw[e1,e2,Bool.or_false]) (by rw[h1];simpa using h2) ⟨.str ⟨#[c]⟩,H,I.tok _,⟨_,rfl⟩,q⟩) hs
def rIx (K:PySem.W.Frag):R2:=λx y H Q=>AR K x y H Q\/AO K x y H Q\/AQ x y H Q
theorem zR:IxR X (rIx X.K):=ix_list.or (ix_tup.or zQ)
theorem mK (lo hi:Option Int)(n:Nat):(sliceBounds lo hi none n).1=((HT.sIx n 0 lo:Nat):Int)/\(sliceBounds lo hi none n).2.1=((HT.sIx n n hi:Nat):Int)/\(sliceBounds lo hi none n).2.2=1:=by
 refine⟨?_,?_,rfl⟩
 ·cases lo with
  | none=>simp[sliceBounds,HT.sIx]
  | some i=>
   simp only[sliceBounds,HT.sIx,Option.getD_none,show(1:Int) > 0 by decide,if_true]
   by_cases h:i<0
   ·simp only[h,if_true] <;> omega
   ·simp only[h,if_false] <;> omega
 ·cases hi with
  | none=>simp[sliceBounds,HT.sIx]
  | some i=>
   simp only[sliceBounds,HT.sIx,Option.getD_none,show(1:Int) > 0 by decide,if_true]
   by_cases h:i<0
   ·simp only[h,if_true] <;> omega
   ·simp only[h,if_false] <;> omega
theorem lG (its:List Value)(lo hi:Option Int):slicePick its.toArray lo hi none=((its.drop (HT.sIx its.length 0 lo)).take (HT.sIx its.length its.length hi - HT.sIx its.length 0 lo)).toArray:=by
 obtain⟨h1,h2,h3⟩:=mK lo hi its.toArray.size;unfold slicePick;rw[h1,h2,h3];simp only[sliceRange_one,pick_run,List.size_toArray] <;> rfl
def rSlL (K:PySem.W.Frag):V->Option Int->Option Int->Hp->VK->Prop:=λx lo hi H Q=> ∃a xs,x= .ref a/\SqL K H a xs/\∀p,H p=none->Q (.ref p) (upd H p (.lst (pA xs lo hi)))
theorem v5:SlR X (rSlL X.K):=by
 intro pins s σ H x v vl vu lo hi sl Q I rx hs pl pu h;obtain⟨a,xs,rfl,hx,q⟩:=h;cases rx;obtain⟨its,r,ht,hz⟩:=I.list hx
 have hlen:=r.length;refine⟨"list",_,slot_list_getitem.lookup,ht.isList.typeIs,?_⟩
 refine wpAny_getItem_list_slice ht.isList hs pl pu .none (by simp) ?_ (by rw[List.size_toArray] <;> omega)
 rw[lG,<-hlen];refine⟨.ref s.heap.objs.size,_,I.laid (t':=s.toks) (o:=.lst (pA xs lo hi)) (λb ob q=>Heap.get?_push_of_some _ q) (Nat.le_refl _) ?_,rfl,q _ (I.hok.fresh (Nat.le_refl _))⟩
 exact⟨Nat.le_trans (jN xs lo hi) hz,_,0,(r.drop (HT.sIx xs.length 0 lo)).take (HT.sIx xs.length xs.length hi - HT.sIx xs.length 0 lo),Heap.get?_push_size _ rfl⟩
theorem call_len_seq:CallR X (.builtin "len") (λxs H Q=> ∃p ys,xs= [.ref p]/\(SqL X.K H p ys\/SqT X.K H p ys)/\Q (.int ys.length) H):=by
 intro pins s σ H xs us Q I r h;obtain⟨p,ys,rfl,hq,q⟩:=h;obtain⟨u,rfl,rx⟩:=iH r;cases rx
 have hn:=k4;rcases hq with hq | hq
 ·obtain⟨its,r',pl,hz⟩:=I.list hq
  have hlen:=r'.length;exact Calls.call_len_list pl.isList (by simp only[List.size_toArray] <;> omega) ⟨.int ys.length,H,I.tok _,⟨s.toks+1,by rw[List.size_toArray,hlen]⟩,q⟩
 ·obtain⟨its,r',pl,hz⟩:=I.tuple hq
  have hlen:=r'.length;exact len_tuple pl (by simp only[List.size_toArray] <;> omega) ⟨.int ys.length,H,I.tok _,⟨s.toks+1,by rw[List.size_toArray,hlen]⟩,q⟩
theorem nH:CallR X (.builtin "len") (λxs H Q=> ∃z,xs= [.str z]/\z.length<=sizeLine/\Q (.int z.length) H):=by
 intro pins s σ H xs us Q I r h;obtain⟨z,rfl,hz,q⟩:=h;obtain⟨u,rfl,t,rfl⟩:=iH r
 have hn:=k4;exact len_str (by omega) ⟨.int z.length,H,I.tok _,⟨_,rfl⟩,q⟩
theorem CallR.or {f:Value}{r r':List V->Hp->VK->Prop}(h:CallR X f r)(h':CallR X f r'):CallR X f (λxs H Q=>r xs H Q\/r' xs H Q):=by
 intro pins s σ H xs us Q I rs q;rcases q with q | q
 ·exact h pins s σ H xs us Q I rs q
 ·exact h' pins s σ H xs us Q I rs q
theorem lM:CallR X (.type "tuple") (λxs H Q=> ∃p ys,xs= [.ref p]/\((SqL X.K H p ys/\∀l,H l=none->Q (.ref l) (upd H l (.tup ys)))\/(SqT X.K H p ys/\Q (.ref p) H))):=by
 intro pins s σ H xs us Q I r h;obtain⟨p,ys,rfl,h⟩:=h;obtain⟨u,rfl,rx⟩:=iH r;cases rx;rcases h with⟨hq,q⟩ | ⟨hq,q⟩
 ·obtain⟨its,r',pl,hz⟩:=I.list hq
  have hlen:=r'.length;refine call_tuple_list pl.isList (λh' kp=> ?_) (by simp only[List.size_toArray] <;> omega)
  have I1:Inv X pins σ H { s with heap:=h' }:=I.kept (t':=s.toks) kp
  have I2:Inv X pins σ (upd H h'.objs.size (.tup ys)) { s with heap:=h'.push { cls:=.type "tuple",data:=.seq its.toArray } }:=
   I1.laid (t':=s.toks) (λb o e=>Heap.get?_push_of_some _ e) (Nat.le_refl _) (show ObjOk X.prog X.w _ _ _ (.tup ys)from⟨hz,its,r',IsTup.new _ _⟩)
  exact⟨.ref h'.objs.size,_,I2,rfl,q _ (I1.hok.fresh (Nat.le_refl _))⟩
 ·obtain⟨its,r',pl,hz⟩:=I.tuple hq
  exact call_tuple_same pl ⟨.ref p,H,I,rfl,q⟩
def tyV (K:PySem.W.Frag)(T:String)(x:V)(H:Hp):Prop:=match x with
 | .str _=>T= "str"
 | .int _=>T= "int"
 | .ref p=>(T= "list"/\∃xs,SqL K H p xs)\/(T= "tuple"/\∃o,K.lookup p=some o/\o.cls= .type "tuple"/\o.dict=none) ∨
   (T= "dict"/\((∃kvs,H p=some (.dK kvs))\/∃kvs,H p=some (.dT kvs)))\/(T= "set"/\∃S n,H p=some (.set S n))
 | _=>False
theorem sX {pins:List (Addr×Obj)}{σ:St}{H:Hp}{s:Shared}{T:String}{x:V}{v:Value}(I:Inv X pins σ H s)(r:RelV x v)(ty:tyV X.K T x H) :
  s.TypeIs v T/\∀a,v= .ref a->∃ob,s.heap.get? a=some ob/\ob.dict=none:=by
 cases x with
 | str z=>
  obtain⟨t,rfl⟩:=r;cases (show T= "str" from ty)
  exact⟨typeIs_str s z t,λ_ e=>nomatch e⟩
 | int i=>
  obtain⟨t,rfl⟩:=r;cases (show T= "int" from ty)
  exact⟨typeIs_int s i t,λ_ e=>nomatch e⟩
 | ref p=>
  cases r;rcases ty with⟨rfl,xs,hq⟩ | ⟨rfl,o,hk,hc,hd⟩ | ⟨rfl,hk⟩ | ⟨rfl,S,n,hk⟩
  ·obtain⟨its,_,pl,_⟩:=I.list hq
   refine⟨pl.isList.typeIs,λa e=> ?_⟩
   cases e;obtain⟨o,n,e,c,hd,_⟩:=pl;exact⟨o,e,hd⟩
  ·refine⟨⟨o,I.kIn p o hk,hc⟩,λa e=> ?_⟩
   cases e;exact⟨o,I.kIn _ o hk,hd⟩
  ·have z:∃o,s.heap.get? p=some o/\o.ExactDict:=by
    rcases hk with⟨kvs,hk⟩ | ⟨kvs,hk⟩
    ·obtain⟨_,_,_,_,o,_,_,e,ex,_⟩:=I.hok p _ hk
     exact⟨o,e,ex⟩
    ·obtain⟨_,_,_,_,o,_,_,e,ex,_⟩:=I.hok p _ hk
     exact⟨o,e,ex⟩
   obtain⟨o,e,ex⟩:=z;refine⟨⟨o,e,ex.1⟩,λa e2=> ?_⟩
   cases e2;exact⟨o,e,ex.2.1⟩
  ·obtain⟨o,_,_,_,e,ex,_⟩:=I.hok p _ hk
   refine⟨⟨o,e,ex.1⟩,λa e2=> ?_⟩
   cases e2
   exact⟨o,e,ex.2.1⟩
 | _=>exact False.elim ty
def tBM (K:PySem.W.Frag)(T:String)(r:V->List V->Hp->VK->Prop)(to:TE)(t:TA):TE:=λσ H Q=>to σ H λx H1=>tyV K T x H1/\t σ H1 λxs H2=>r x xs H2 Q
variable {o e:Expr}{es:List Expr}{to:TE}{t:TA}{name:Str}{apos cpos:Pos}{T id:String}{r:V->List V->Hp->VK->Prop}
theorem x8 (pa:PlainAttrs T)(slot:Slot T name id)(hty:typeOf (.builtin id)=pure (.type "method_descriptor"))(hm:MtR X id r)(ho:PE X o to)(ha:PA X (e::es) t)
  (hbase:attributeBase o name X.env (eval o X.env)=eval o X.env:=by rfl)
  (hfew:((backTo cpos (starEach (e::es) X.env)).all (λx=> !x.1)&&(backToKw cpos (keywordEach [] X.env)).all (λx=>x.1.isSome)
   &&decide ((e::es).length+([]:List Keyword).length+(if ([]:List Keyword).isEmpty then 0 else 1)<30))=true:=by rfl)
  (hline:(apos.endLine == cpos.line)=true:=by rfl) (hs:starEach (e::es) X.env=(false,eval e X.env)::starEach es X.env:=by rfl) (hplain:(backTo cpos (starEach es X.env)).any (·.1)=false:=by rfl) :
  PE X (.Call (.Attribute o name apos) (e::es) [] cpos) (tBM X.K T r to t):=by
 intro pins s σ H Q I h;refine wpAny_Call_method_late hbase hfew hline rfl (cf (ho pins s σ H _ I h) λv s1 hh_=> ?_)
 obtain⟨x,H1,I1,r1,ty,q1⟩:=hh_;obtain⟨h1,h2⟩:=sX I1 r1 ty;refine⟨T,id,pa,slot,hty,h1,h2,?_⟩
 have hA:=ha cpos pins s1 σ H1 _ I1 q1;rw[hs]at hA ⊢;refine Calls.callWith_builtin (by show(false||(backTo cpos (starEach es X.env)).any (·.1))=false;rw[hplain] <;> rfl) (Calls.evalArgs_plain ?_)
 exact cf hA λus s2 ⟨vs,H2,I2,r2,q2⟩=>hm pins s2 σ H2 x vs v us Q I2 r1 r2 q2
end
def MtM (X:Cx)(id:String)(r:V->List V->Hp->VK->Prop):Prop:=
 ∀(pins:List (Addr×Obj)) (s:Shared) (σ:St) (H:Hp) (x:V) (xs:List V) (v:Value) (us:List Value) (Q:VK),Inv X pins σ H s->RelV x v->Vals xs us->r x xs H Q →
  wpAny (model X.prog X.w) X.A (call (.builtin id) (v::us)) (EP X pins σ Q) X.xe s
theorem Vals.one:∀{x:V} {us:List Value},Vals [x] us->∃u,us= [u]/\RelV x u
 | _,_,.cons r .nil=>⟨_,rfl,r⟩
theorem Vals.reverse {xs:List V}{us:List Value}(h:Vals xs us):Vals xs.reverse us.reverse:=by
 induction h with
 | nil=>exact .nil
 | cons r t ih=>rw[List.reverse_cons,List.reverse_cons];exact Vals.append ih (.cons r .nil)
theorem Vals.rep {xs:List V}{us:List Value}(h:Vals xs us):∀k:Nat,Vals (List.replicate k xs).flatten (List.replicate k us).flatten
 | 0=> .nil
 | k+1=>by
  rw[List.replicate_succ,List.replicate_succ,List.flatten_cons,List.flatten_cons];exact Vals.append h (Vals.rep h k)
theorem foldl_rep (its:List Value):∀(k:Nat) (acc:List Value),
  List.foldl (λx1 x2=>x1++x2) acc.toArray (List.replicate k its.toArray)=(acc++(List.replicate k its).flatten).toArray
 | 0,acc=>by simp
 | k+1,acc=>by
  have e:acc.toArray++its.toArray=(acc++its).toArray:=by simp
  have e2:(acc++its)++(List.replicate k its).flatten=acc++(List.replicate (k+1) its).flatten:=by
   rw[List.replicate_succ,List.flatten_cons,List.append_assoc]
  rw[<-e2,<-foldl_rep its k (acc++its),<-e,List.replicate_succ,List.foldl_cons]
section
variable {X:Cx}{pins:List (Addr×Obj)}{σ:St}{H:Hp}{s:Shared}{l b:Addr}{xs ys zs:List V}
theorem Inv.lset {its its':List Value}{n:Nat}{f:Array Value->Array Value}{t':Nat}(I:Inv X pins σ H s)(hH:H l=some (.lst xs))
  (e:s.heap.get? l=some { cls:=.type "list",data:=.seq its.toArray n }) (hf:f its.toArray=its'.toArray) (hv:Vals ys its') (hz:ys.length<=sizeLine) :
  Inv X pins σ (upd H l (.lst ys)) { s with heap:=s.heap.update l (Obj.mapSeq f),toks:=t' }:=by
 have q:=PySem.IsL.update e f;rw[hf]at q;refine I.write (x:=l) (e:=l) (by rw[hH];exact trivial) (.inl rfl) (λb' u hb hu=>(Heap.get?_update_other s.heap (Obj.mapSeq f) (Ne.symm hb)).trans hu) ⟨_,q⟩ ?_
 exact⟨hz,its',_,hv,q⟩
theorem Inv.lnew {its:List Value}{t':Nat}(I:Inv X pins σ H s)(hv:Vals ys its)(hz:ys.length<=sizeLine) :
  Inv X pins σ (upd H s.heap.objs.size (.lst ys)) { s with heap:=s.heap.push { cls:=.type "list",data:=.seq its.toArray },toks:=t' }:=
 I.laid (λ_ _ q=>Heap.get?_push_of_some _ q) (Nat.le_refl _) ⟨hz,its,0,hv,Heap.get?_push_size _ rfl⟩
theorem Inv.fresh (I:Inv X pins σ H s):H s.heap.objs.size=none:=I.hok.fresh (Nat.le_refl _)
theorem Inv.lstM (I:Inv X pins σ H s)(hH:H l=some (.lst xs)):xs.length<=sizeLine/\∃(its:List Value) (n:Nat),Vals xs its/\xs.length=its.length/\s.heap.get? l=some { cls:=.type "list",data:=.seq its.toArray n }:=by
 obtain⟨z,its,n,r,e⟩:=I.hok l _ hH;exact⟨z,its,n,r,r.length,e⟩
theorem oP {n:Nat}(h:n<=sizeLine):Builtin.List.listTooLong n=false:=by
 unfold Builtin.List.listTooLong;exact decide_eq_false (by omega)
end
section
variable {X:Cx}
def wf:V->List V->Hp->VK->Prop:=λx vs H Q=> ∃l xs y,x= .ref l/\vs= [y]/\H l=some (.lst xs)/\xs.length<sizeLine/\Q .non (upd H l (.lst (xs++ [y])))
theorem l4:MtM X "list.append" wf:=by
 intro pins s σ H x vs v us Q I rx rv h;obtain⟨l,xs,y,rfl,rfl,hH,hz,q⟩:=h;cases rx;obtain⟨u,rfl,ru⟩:=rv.one;obtain⟨z,its,n,r,hl,e⟩:=I.lstM hH;refine call_meets F.slot_list_append ⟨_,e,rfl⟩ F.entry_list_append (F.args_list_append_2 _ _) (PySem.list_append l its.toArray n u (by rw[List.size_toArray];omega)) ⟨e,?_⟩
 refine⟨.non,_,I.lset (its':=its++ [u]) hH e (by simp) (r.append (.cons ru .nil)) ?_,rfl,q⟩
 rw[List.length_append,List.length_singleton];omega
def we:V->List V->Hp->VK->Prop:=λx vs H Q=> ∃l b xs zs,x= .ref l/\vs= [.ref b]/\H l=some (.lst xs)/\H b=some (.lst zs)/\xs.length+zs.length<=sizeLine/\Q .non (upd H l (.lst (xs++zs)))
theorem rY:MtM X "list.extend" we:=by
 intro pins s σ H x vs v us Q I rx rv h;obtain⟨l,b,xs,zs,rfl,rfl,hH,hB,hz,q⟩:=h;cases rx;obtain⟨u,rfl,ru⟩:=rv.one;cases ru;obtain⟨z,its,n,r,hl,e⟩:=I.lstM hH;obtain⟨z2,its2,n2,r2,hl2,e2⟩:=I.lstM hB
 have hsz:its.toArray.size+its2.toArray.size<=sizeLine:=by rw[List.size_toArray,List.size_toArray];omega
 have hlong:¬ (!its.toArray.isEmpty&&Builtin.List.listTooLong (its.toArray.size+its2.toArray.size))=true:=by
  rw[oP hsz,Bool.and_false];exact Bool.false_ne_true
 refine call_meets F.slot_list_extend ⟨_,e,rfl⟩ F.entry_list_extend (F.args_list_extend_2 _ _)
  (AutoSeq1.list_extend_list_list_0 l its.toArray n b its2.toArray n2 hlong (by rw[List.size_toArray];omega) (by omega)) ⟨e,e2,?_⟩
 refine⟨.non,_,I.lset (its':=its++its2) hH e (by simp) (r.append r2) ?_,rfl,q⟩
 rw[List.length_append];omega
def rCat:R2:=λx y H Q=> ∃l b xs zs,x= .ref l/\y= .ref b/\H l=some (.lst xs)/\H b=some (.lst zs)/\xs.length+zs.length<=sizeLine/\∀p,H p=none->Q (.ref p) (upd H p (.lst (xs++zs)))
theorem zv:mG X (binaryOp .Add) rCat:=by
 intro pins s σ H x y v u Q I rx ry h;obtain⟨l,b,xs,zs,rfl,rfl,hH,hB,hz,q⟩:=h;cases rx;cases ry;obtain⟨z,its,n,r,hl,e⟩:=I.lstM hH;obtain⟨z2,its2,n2,r2,hl2,e2⟩:=I.lstM hB;refine PySem.P.add_list e e2 ?_ (by rw[List.size_toArray,List.size_toArray];omega)
 have ea:its.toArray++its2.toArray=(its++its2).toArray:=by simp
 rw[ea];exact⟨.ref _,_,I.lnew (t':=s.toks) (r.append r2) (by rw[List.length_append];omega),rfl,q _ I.fresh⟩
def rRep:R2:=λx y H Q=> ∃l k xs,x= .ref l/\y= .int k/\H l=some (.lst xs)/\-(2 ^ 63)<=k/\k<2 ^ 63/\xs.length*k.toNat<=sizeLine ∧
 ∀p,H p=none->Q (.ref p) (upd H p (.lst (List.replicate k.toNat xs).flatten))
theorem len_rep {α:Type}(xs:List α)(k:Nat):(List.replicate k xs).flatten.length=k*xs.length:=by
 induction k with
 | zero=>simp
 | succ k ih=>rw[List.replicate_succ,List.flatten_cons,List.length_append,ih,Nat.succ_mul,Nat.add_comm]
theorem zp:mG X (binaryOp .Mult) rRep:=by
 intro pins s σ H x y v u Q I rx ry h;obtain⟨l,k,xs,rfl,rfl,hH,h1,h2,hz,q⟩:=h;cases rx;obtain⟨t,rfl⟩:=ry;obtain⟨z,its,n,r,hl,e⟩:=I.lstM hH
 have hlen:its.toArray.size*k.toNat<=sizeLine:=by rw[List.size_toArray,<-hl];exact hz
 have hcap:¬ its.toArray.size*k.toNat > (2 ^ 63 - 1) / 8:=by
  have:(sizeLine:Nat)<=(2 ^ 63 - 1) / 8:=by decide
  omega
 have hfit:¬ (!Builtin.List.listFitsIndex k)=true:=by
  rw[fitsIndex_both h1 h2];exact Bool.false_ne_true
 have hlong:¬ Builtin.List.listTooLong (its.toArray.size*k.toNat)=true:=by
  rw[oP hlen];exact Bool.false_ne_true
 have hnew:List.foldl (λx1 x2=>x1++x2) #[] (List.replicate (if its.toArray.isEmpty=true then 0 else k.toNat) its.toArray)=(List.replicate k.toNat its).flatten.toArray:=by
  have f0:∀m:Nat,List.foldl (λx1 x2=>x1++x2) #[] (List.replicate m its.toArray)=(List.replicate m its).flatten.toArray:=λm=>by
   have:=foldl_rep its m [];rw[List.nil_append]at this;exact this
  rw[f0]
  cases its with
  | nil=>simp
  | cons a r'=>rw[if_neg (by simp)]
 refine wpAny_binaryOp_repeat_ref (T:="list") (U:="int") (by decide) ⟨_,e,rfl⟩ (λs'=>typeIs_int s' k t) noFill_list_mul F.fills_int_mul F.slot_int_rmul repeat_list F.slot_int_index.lookup
  (call_meets F.slot_int_rmul (typeIs_int s k t) F.entry_int_rmul (F.args_int_rmul_2 _ _) (int___rmul___int_list k t l its.toArray n)
   ⟨e,rfl,⟨_,e,rfl⟩,call_meets F.slot_list_mul ⟨_,e,rfl⟩ F.entry_list_mul (F.args_list_mul_2 _ _) (AutoListH.list___mul___list_int_3 l its.toArray n k t hfit hcap hlong) ⟨e,?_⟩⟩)
 rw[hnew];exact⟨.ref _,_,I.lnew (t':=s.toks) (r.rep k.toNat) (by rw[len_rep,Nat.mul_comm];exact hz),rfl,q _ I.fresh⟩
end
end L2
namespace Att
open PySem PySem.W PySem.Calls PyProof.Rows
theorem jW {P:Params}{h:Heap}:∀(ns:List Int) (vs:List Value),WellAll P h vs (ns.map WData.int)->IntsAre vs ns:=by
 intro ns
 induction ns with
 | nil=>
  intro vs w;rw[List.map_nil]at w;cases w
  exact .nil
 | cons n ns ih=>
  intro vs w;rw[List.map_cons]at w
  cases w with
  | cons a b=>
   cases a;exact .cons _ _ (ih _ b)
theorem rK {l:OpenLaw}{n:Nat}(hn:l.most=some n){P:Params}{h:Heap}{args:List WData}{vals:List Value}
  (hpre:l.row.toRowW.claim.pre args=true) (hwl:WellAll P h vals args) :
  ∃a vs ns,vals= [Value.ref a]/\args= [WData.list (ns.map WData.int)]/\h.get? a=some { cls:=.type "list",data:=.seq vs.toArray }/\IntsAre vs ns/\ns.length<=n:=by
 have hsh:WShape.hasAll [] args [.list .int] =true:=(pre_splitW hpre).1
 have hc:l.pre.holds [] { args:=args }=true:=(pre_splitW hpre).2;obtain⟨d,r,rfl,h1,h2⟩:=hasAllW_cons hsh;obtain rfl:=hasAllW_nil h2;obtain⟨xs,rfl,h3⟩:=hasW_list h1;obtain⟨ns,rfl⟩:=items_int h3
 have hlen:ns.length<=n:=by
  unfold OpenLaw.pre at hc
  have h4:(WTm.not (.lt (.lit (.int (n:Int))) (.len (.arg 0)))).holds [] { args:=[.list (ns.map .int)] }=true:=by
   have h4:=(holds_andW hc).1;rw[hn]at h4;exact h4
  have h5:=condW_of h4 (w_not (w_lt w_lit (w_len_list (w_arg rfl))));rw[List.length_map]at h5;refine Nat.le_of_not_lt λq=> ?_
  have q':(n:Int)<((ns.length:Nat):Int):=by omega
  first
   | (rw[decide_eq_true q']at h5;exact absurd h5 (by decide))
   | (simp at h5;omega)
 cases hwl with
 | cons w1 w2=>
  cases w2
  cases w1 with
  | list ho hall=>exact⟨_,_,ns,rfl,rfl,ho,jW ns _ hall,hlen⟩
theorem rO (l:OpenLaw)(args:List WData):l.row.toRowW.claim.post args (.bool true) args=true:=
 postW_of (r:=l.row.toRowW) (X:=(true == true))
  (show WShape.has [] (.bool true) .bool=true by first | rfl | decide | simp[WShape.has,WShape.arms,WShape.armsAll])
  (show(WTm.eq .res (.lit (.bool true))).value [] { args:=args,res:=some (.bool true),after:=args }=some (.bool (true == true))from w_eq_bool (w_res rfl) w_lit) rfl
theorem attach_call {l:OpenLaw}{n:Nat}{q:Program}{loose:List Str}{XP:(Str->Option Value)->Heap->Prop}{YP:World->Heap->Prop}{d:DefRec}
  (hn:l.most=some n) (hdf:d.params.defaults= [])
  (call:∀(w:World) (s₀ s₁:Shared) (mg mb:Str->Option Value) (fa:Addr) (o:Obj) (pm cd doc:Value) (a:Addr) (vs:List Value) (ns:List Int),
   Ground q loose [] XP w s₀ mg mb s₁.heap->YP w s₁.heap →
   s₁.heap.get? fa=some o->o.data= .func (docDef d.name d.params d.body d.scope pm cd doc)->s₁.heap.CodeRec cd d.name->mg d.name=some (.ref fa) →
   s₁.heap.get? a=some { cls:=.type "list",data:=.seq vs.toArray }->IntsAre vs ns->ns.length<=n->s₁.gens= #[] →
   codeAny (model l.prog w) callerA (.call (.ref fa) ⟨[.ref a],[]⟩) (λr s'=>r= .ok (.ret (.bool true))/\OldK s₁.heap s'.heap/\s'.os=s₁.os/\AllBare s'.gens) s₁) :
  WalkO q loose XP YP l.row.toRowW d [] (λf vs=>PySem.call f vs):=by
 intro w s₀ s₁ mg mb G Y fa o pm cd doc dV kV ho hd hcd hD hmg hg args vals as hpre hlay hrd hwl hlo;obtain rfl:dV= .none:=Dflts.none hD hdf;obtain rfl:kV= .none:=Dflts.noKw hD;obtain⟨a,vs,ns,rfl,rfl,hobj,hints,hlen⟩:=rK hn hpre hwl;refine enter_call (codeAny_mono (call w s₀ s₁ mg mb fa o pm cd doc a vs ns G Y ho (fd_plain hd) hcd hmg hobj hints hlen hg) λr s' hq=> ?_)
 obtain⟨rfl,h2,h3,h4⟩:=hq;exact⟨.inl ⟨.bool true,.bool true,[],rfl,λ_=>rfl,.bool true,rO l _,λ_=>⟨List.Pairwise.nil,λ_ hm=>(nomatch hm)⟩⟩,h2,h3,h4⟩
end Att
namespace L2
open PySem PySem.Spec PyProof.Rows
theorem lP:∀{vs:List Value} {ns:List Int},IntsAre vs ns->Vals (ns.map V.int) vs
 | _,_,.nil=> .nil
 | _,_,.cons n t h=> .cons ⟨t,rfl⟩ (lP h)
def Ap (H:Hp):Prop:=∀b,H b=none\/∃o xs,H b=some (.frz o (.lst xs))
theorem uD {P:Program}{w:World}{K:PySem.W.Frag}{mg mb:Str->Option Value}{CX:vJ}{k:Nat}{fa a:Addr}{fd:FuncData}{x:Str}{sp:Sp}{s₁:Shared}{vs:List Value}{ns:List Int}
  (KX:K.In s₁.heap) (hns:s₁.heap.Ns mainGlobals mg) (hb:s₁.heap.Ns builtinsNs mb) (hbb:∀x:Str,x≠ "__name__"->mb x=bootBuiltins x) (hlim:s₁.heap.NoLimit) (hg:s₁.gens= #[])
  (ha:s₁.heap.get? a=some { cls:=.type "list",data:=.seq vs.toArray }) (hi:IntsAre vs ns) (hl:ns.length<=sizeLine) (hr:Room k callerA)
  (F:∀base:Heap,K.In base->base.Ns mainGlobals mg->nQ P w K mg base CX k fa fd [x] sp) (hbind:∀(s:Shared) (u:Value),BindsTo s fd ⟨[u],[]⟩ [(x,u)])
  (hsp:∀H:Hp,Ap H->SqL K H a (ns.map V.int)->sp [.ref a] H (λv _=>v= .bl true) λ_ _ _=>False)
  (hCX:∀H e s',CX [] H s₁ (λ_ _ _=>False) e s'->False) :
  codeAny (model P w) callerA (.call (.ref fa) ⟨[.ref a],[]⟩) (λr s'=>r= .ok (.ret (.bool true))/\OldK s₁.heap s'.heap/\s'.os=s₁.os/\AllBare s'.gens) s₁:=by
 have rv:=lP hi
 have lenV:=hi.length
 -- from an abstract heap in which nothing but the script may be tracked
 have core:∀H:Hp,Ap H->SqL K H a (ns.map V.int)->HOk P w H s₁.heap->(∀b,H b≠none->b=a)->(H a≠none->K.lookup a=none) →
   codeAny (model P w) callerA (.call (.ref fa) ⟨[.ref a],[]⟩) (λr s'=>r= .ok (.ret (.bool true))/\OldK s₁.heap s'.heap/\s'.os=s₁.os/\AllBare s'.gens) s₁:=by
  intro H hO hS hok hA hK
  have base_of:∀{b:Addr} {o:Obj},s₁.heap.get? b=some o->H b=none->(ny s₁.heap H).get? b=some o:=λe n=>uT e n
  have noA:∀{b:Addr} {o:Obj} {es:Array DictEntry} {ep:Nat},s₁.heap.get? b=some o->o.data= .dict es ep->H b=none:=λ{b o es ep} e d=>by
   cases q:H b with
   | none=>rfl
   | some u=>
    have e':b=a:=hA b (by rw[q];simp)
    subst e';rw[ha]at e;cases e
    have d':Data.seq vs.toArray _=Data.dict es ep:=d;cases d'
  have nsK:∀{b:Addr} {m:Str->Option Value},s₁.heap.Ns b m->(ny s₁.heap H).Ns b m:=λ{b m} ⟨o,es,ep,e,d,r⟩=>⟨o,es,ep,base_of e (noA e d),d,r⟩
  have hKb:K.In (ny s₁.heap H):=λb o e=>base_of (KX b o e) (by
   cases q:H b with
   | none=>rfl
   | some u=>
    have e':b=a:=hA b (by rw[q];simp)
    subst e';rw[hK (by rw[q];simp)]at e;cases e)
  have hM:Mod K mg (ny s₁.heap H):=⟨hKb,nsK hns,⟨mb,nsK hb,hbb⟩,let ⟨mc,h1,h2⟩:=hlim;⟨mc,nsK h1,h2⟩⟩
  have e0:vE P w K mg (ny s₁.heap H) callerA [] s₁ H:=⟨rfl,hM,λb o e=>w4 e,Nat.le_of_eq (sh _ _),trivial,λb hb=>absurd (show b∈([]:List Addr)from hb) (by simp),hok,.of_eq hg⟩
  refine codeAny_mono ((F _ hKb (nsK hns)).run callerA [] s₁ H ⟨[.ref a],[]⟩ [.ref a] [.ref a] _ _ hr e0 (hbind s₁ (.ref a)) (.cons rfl .nil) (hsp H hO hS)) λr s' h=> ?_
  cases r with
  | error e=>exact(hCX H e s' h).elim
  | ok fl=>
   cases fl with
   | next=>exact False.elim h
   | brk=>exact False.elim h
   | cont=>exact False.elim h
   | ret u=>
    obtain⟨v,H',os,bare,un,hok',r',q⟩:=h
    have q':v= .bl true:=q;subst q';obtain rfl:u=Value.bool true:=r';refine⟨rfl,OldK.of_keep λb o e=> ?_,os,bare⟩
    cases q:H b with
    | none=>exact un.keep b o e q (by intro z;exact absurd (show b∈([]:List Addr)from z) (by simp)) (by simp)
    | some u=>
     rcases hO b with z | ⟨ob,xs,z⟩
     ·rw[q]at z;cases z
     ·have z2:=un.frzs b ob _ z
      obtain⟨e1,_⟩:=hok b _ z;obtain⟨e2,_⟩:=hok' b _ z2;rw[e]at e1;cases e1;exact e2
 cases hk:K.lookup a with
 | some o=>
  -- the script is one of the module's own objects
  have e:=KX a o hk;rw[ha]at e;cases e
  refine core (λ_=>none) (λ_=> .inl rfl) (.inr ⟨_,vs.toArray,_,hk,rfl,rfl,rfl,by rw[List.size_toArray,lenV];exact hl,by simpa using rv⟩) (λb u z=>by have z':(none:Option HO)=some u:=z;cases z') (λb z=>absurd rfl z) λz=>absurd rfl z
 | none=>
  refine core (λb=>if b=a then some (.frz { cls:=.type "list",data:=.seq vs.toArray } (.lst (ns.map V.int)))else none) (λb=> ?_) (.inl (.inr ⟨{ cls:=.type "list",data:=.seq vs.toArray },if_pos rfl⟩)) (λb u z=> ?_) (λb z=> ?_) λ_=>hk
  ·by_cases hb:b=a
   ·exact .inr ⟨_,_,if_pos hb⟩
   ·exact .inl (if_neg hb)
  ·by_cases hb:b=a
   ·have z':=(if_pos hb).symm.trans z
    cases z';subst hb;exact⟨ha,by rw[List.length_map];exact hl,vs,_,rv,ha⟩
   ·have z':=(if_neg hb).symm.trans z
    cases z'
  ·by_cases hb:b=a
   ·exact hb
   ·exact absurd (if_neg hb) z
def gb (s:Stmt):Arguments:=match s with
 | .FunctionDef _ a _ _ _ _ _ _ _ _=>a
 | _=> { posonlyargs:=[],args:=[],vararg:=none,kwonlyargs:=[],kw_defaults:=[],kwarg:=none,defaults:=[] }
def cY (s:Stmt):List Stmt:=match s with
 | .FunctionDef _ _ b _ _ _ _ _ _ _=>b
 | _=> []
def aj (s:Stmt):Scope:=match s with
 | .FunctionDef _ _ _ _ _ _ sc _ _ _=>sc
 | _=> { kind:=.function,names:=[],isGenerator:=false,isCoroutine:=false }
abbrev CX0:vJ:=λ_ _ _ _ _ _=>False
abbrev E0:XK:=λ_ _ _=>False
theorem x9 {X:Cx}:qm CX0 X E0:=λ_ _ _ _ _ _ _ h=>h.elim
structure Fun (K:PySem.W.Frag)(x qual:Str)(st:Stmt)(f:Addr)(fd:FuncData):Prop where
 ex:∃(oc:Value) (od:Option Addr) (kV doc pm:Value) (an:Option Addr) (cdv ct:Value) (osl:Array (Option Value)),
  fd=PySem.W.fnOf x qual (gb st) (cY st) (aj st) .none kV doc pm an cdv ct/\K.lookup f=some ⟨oc,od,.func fd,osl⟩/\PySem.W.codeIn K cdv qual=true
 kp:PySem.W.keepIn K (.ref f)=true
section
variable {P:Program}{w:World}{K:PySem.W.Frag}{mg:Str->Option Value}{base:Heap}
theorem Fun.ok {x qual:Str}{st:Stmt}{f:Addr}{fd:FuncData}{N ps:List Str}{k:Nat}{sp:Sp}(F:Fun K x qual st f fd)(S:ay N ps (aj st))(len:∀vs H Q E,sp vs H Q E->vs.length=ps.length)
  (hbody:∀(cdv:Value) (A:Around) (outer:List Env) (s:Shared) (H:Hp) (vs:List V) (Q:VK) (E:XK),Room k (A.deeper (envOfC qual (aj st) s.heap.objs.size f cdv))->sp vs H Q E →
   ∃t,PSs (ju CX0 P w K mg base N qual (aj st) f cdv A outer s H E).nox (cY st) t/\t { nx:=λ_ H'=>Q .non H',rt:=Q } (start N vs) H):nQ P w K mg base CX0 (k+1) f fd ps sp:=by
 obtain⟨oc,od,kV,doc,pm,an,cdv,ct,osl,rfl,lk,hcd⟩:=F.ex;refine BP lk hcd S len λA outer s H vs Q E hr hsp=> ?_
 obtain⟨t,h,q⟩:=hbody cdv A outer s H vs Q E hr hsp;exact⟨t,h.nox,q⟩
theorem Fun.binds {x qual:Str}{st:Stmt}{f:Addr}{fd:FuncData}{ps:List Str}(F:Fun K x qual st f fd)
  (h:∀(kV doc pm:Value) (an:Option Addr) (cdv ct:Value) (us:List Value),us.length=ps.length->bindArgs (PySem.W.fnOf x qual (gb st) (cY st) (aj st) .none kV doc pm an cdv ct) ⟨us,[]⟩=pure (ps.zip us)):Binds K fd ps []:=by
 obtain⟨oc,od,kV,doc,pm,an,cdv,ct,osl,rfl,lk,hcd⟩:=F.ex;exact .all (h kV doc pm an cdv ct)
theorem zX {x qual:Str}{st:Stmt}{f:Addr}{oc:Value}{od an:Option Addr}{osl:Array (Option Value)}{kV doc pm cdv ct:Value}(l:K.lookup f=some ⟨oc,od,.func (PySem.W.fnOf x qual (gb st) (cY st) (aj st) .none kV doc pm an cdv ct),osl⟩)
  (c:PySem.W.codeIn K cdv qual=true) (k:PySem.W.keepIn K (.ref f)=true):Fun K x qual st f (PySem.W.fnOf x qual (gb st) (cY st) (aj st) .none kV doc pm an cdv ct):=⟨⟨oc,od,kV,doc,pm,an,cdv,ct,osl,rfl,l,c⟩,k⟩
end
theorem iteF {A B:Prop}(h:B):if false=true then A else B:=by
 rw[if_neg Bool.false_ne_true];exact h
theorem iteT {A B:Prop}(h:A):if true=true then A else B:=by
 rw[if_pos rfl];exact h
def Same (H H':Hp):Prop:=∀b o,H b=some o->H' b=some o
theorem Same.refl (H:Hp):Same H H:=λ_ _ h=>h
theorem Same.trans {H H1 H2:Hp}(a:Same H H1)(b:Same H1 H2):Same H H2:=λc o h=>b c o (a c o h)
theorem iy {env:Env}:∀(names:List (Str×NameKind)) (acc:List (Str×Addr)),
  (∀x,(x,NameKind.free)∈names->∃c,env.cells.lookup x=some c) →
  (∀x c,acc.lookup x=some c->env.cells.lookup x=some c) →
  ∃cl,(forIn (m:=Sem) names acc (λx cs=>(if (x.2 == NameKind.free)=true then do let a <-cellOf env x.1;pure (ForInStep.yield ((x.1,a)::cs))else pure (ForInStep.yield cs))))=pure cl ∧
   (∀x c,cl.lookup x=some c->env.cells.lookup x=some c) ∧
   (∀x,(x,NameKind.free)∈names->∃c,cl.lookup x=some c)/\(∀x c,acc.lookup x=some c->∃c',cl.lookup x=some c')
 | [],acc,_,h=>⟨acc,rfl,h,λx hx=>by simp at hx,λx c e=>⟨c,e⟩⟩
 | (n,k)::r,acc,hf,h=>by
  by_cases hk:k=NameKind.free
  ·subst hk
   obtain⟨c,hc⟩:=hf n (by simp)
   have h':∀x c',((n,c)::acc).lookup x=some c'->env.cells.lookup x=some c':=λx c' e=>by
    rw[List.lookup_cons]at e
    cases q:x == n with
    | true=>
     rw[q]at e
     have e2:c=c':=Option.some.inj e
     have e3:x=n:=by simpa using q
     rw[<-e2,e3];exact hc
    | false=>rw[q]at e;exact h x c' e
   obtain⟨cl,e1,e2,e3,e4⟩:=iy r ((n,c)::acc) (λx hx=>hf x (List.mem_cons_of_mem _ hx)) h'
   refine⟨cl,?_,e2,λx hx=> ?_,λx c' e=> ?_⟩
   ·rw[List.forIn_cons]
    simp only[beq_self_eq_true,if_true,cellOf,hc,pure_bind];exact e1
   ·rcases List.mem_cons.mp hx with z | z
    ·have z1:x=n:=by injection z
     subst z1;exact e4 x c (by simp[List.lookup_cons])
    ·exact e3 x z
   ·cases q:x == n with
    | true=>exact e4 x c (by simp[List.lookup_cons,q])
    | false=>exact e4 x c' (by simp[List.lookup_cons,q,e])
  ·have hb:(k == NameKind.free)=false:=by simpa using hk
   obtain⟨cl,e1,e2,e3,e4⟩:=iy r acc (λx hx=>hf x (List.mem_cons_of_mem _ hx)) h
   refine⟨cl,?_,e2,λx hx=> ?_,e4⟩
   ·rw[List.forIn_cons]
    simp only[hb,Bool.false_eq_true,if_false,pure_bind];exact e1
   ·rcases List.mem_cons.mp hx with z | z
    ·have z1:NameKind.free=k:=by injection z
     exact absurd z1.symm hk
    ·exact e3 x z
theorem qh {env:Env}{scope:Scope}(hf:∀x,(x,NameKind.free)∈scope.names->∃c,env.cells.lookup x=some c) :
  ∃cl,closureFor scope env=pure cl/\(∀x c,cl.lookup x=some c->env.cells.lookup x=some c)/\(∀x,(x,NameKind.free)∈scope.names->∃c,cl.lookup x=some c):=by
 obtain⟨cl,e1,e2,e3,_⟩:=iy scope.names [] hf (λx c e=>by simp at e)
 refine⟨cl,?_,e2,e3⟩
 unfold closureFor;refine Eq.trans ?_ (congrArg (λz=>z >>= pure) e1|>.trans (by simp))
 rfl
theorem nG {pr:Program}{wd:World}{Ar:Around}{Rz:Result->Shared->Prop}{s0:Shared}{el tg it0:Expr}{cs:List Expr}{sc:Scope}{ps:Pos}{itv av:Value}{ev:Env}(W:Nat->Shared->Prop)
  (go:∀k st,W k st->wpAny (model pr wd) Ar (pyNext itv) (λr s1=>match r with
   | none=>Rz (.ok .next) s1
   | some v=>wpAny (model pr wd) Ar (letOwnedTupleGo tg itv v) (λ_ s2=>wpAny (model pr wd) Ar (assign tg ev v) (λ_ s3=>
     wpAny (model pr wd) Ar (forIn cs true λc b=>if b=true then do let z <-isTrue c ev (eval c ev);pure (ForInStep.yield z)else pure (ForInStep.yield b)) (λz s4=>
      if z=true then wpAny (model pr wd) Ar (eval el ev) (λy s5=>
       wpAny (model pr wd) Ar (call (.builtin "list.append") [av,y]) (λ_ s6=> ∃m,m<k/\W m s6) (λ_ _=>False) s5) (λ_ _=>False) s4
      else ∃m,m<k/\W m s4) (λ_ _=>False) s3) (λ_ _=>False) s2) (λ_ _=>False) s1) (λ_ _=>False) st)
  (k:Nat) (hk:W k s0):codeAny (model pr wd) Ar (.compLoop (.ListComp el [⟨tg,it0,cs,0⟩] sc ps) 0 itv av ev) Rz s0:=by
 refine codeAny_loop rfl W (λk st hw=> ?_) k hk
 show wpAny (model pr wd) Ar ((compTurn (.ListComp el [⟨tg,it0,cs,0⟩] sc ps) 0 itv av ev).onRaise (λz=>do noteFrame z ev;theTreesLotGoes z)) _ _ st
 refine wpAny_noted ?_
 rw[compTurn_list]
 have no:∀{α:Type} {t:Sem α} {Q Q':α->Shared->Prop} {E':Value->Shared->Prop} {x:Shared},wpAny (model pr wd) Ar t Q (λ_ _=>False) x->(∀y z,Q y z->Q' y z)->wpAny (model pr wd) Ar t Q' E' x:=λh f=>wpAny_mono h f λ_ _ z=>z.elim
 refine wpAny_bind (wpAny_standAt (wpAny_bind (no (go k st hw) λr s1 g1=> ?_)))
 cases r with
 | none=>exact wpAny_pure g1
 | some v=>
  refine wpAny_bind (no g1 λ_ s2 g2=>wpAny_bind (no g2 λ_ s3 g3=>wpAny_bind (no g3 λz s4 g4=> ?_)))
  cases z with
  | false=>exact wpAny_pure (And.intro rfl g4)
  | true=>exact wpAny_bind (wpAny_bind (no g4 λy s5 g5=>wpAny_bind (no g5 λ_ s6 g6=>wpAny_pure (wpAny_pure (And.intro rfl g6)))))
def cq (X:Cx)(scope:Scope)(cl:List (Str×Addr))(N':List Str)(C:Addr)(s₀:Shared)(H₀:Hp)(fp:List Addr):Cx:=
 { X with N:=N',s₀:=s₀,H₀:=H₀,env:=compEnvC scope cl C X.env,outer:=X.stack,stack:=X.stack,ex:=fp,fn:=λx=>scope.names.lookup x == some .cell,xe:=λ_ _=>False }
def eR (src:List (Option Nat))(σ:St):St:=src.map λo=>match o with
 | some i=>(σ[i]?).join
 | none=>none
theorem gB {env:Env}:∀{names:List (Str×NameKind)} {x:Str} {k:NameKind},
  (names.map λ(n,k)=>if (k == NameKind.free&&env.scope.kind == .function&&env.kindOf n == some .cell)then(n,NameKind.cell)else(n,k)).lookup x=some k →
  ∃k',names.lookup x=some k'/\(k=k'\/k'= .free)
 | [],_,_,h=>by simp at h
 | (n,k0)::r,x,k,h=>by
  have ih:=@gB env r x k
  have h':List.lookup x ((if (k0 == NameKind.free&&env.scope.kind == .function&&env.kindOf n == some .cell)=true then(n,NameKind.cell)else(n,k0))::(r.map λ(n,k)=>if (k == NameKind.free&&env.scope.kind == .function&&env.kindOf n == some .cell)then(n,NameKind.cell)else(n,k)))=some k:=h
  by_cases hc:(k0 == NameKind.free&&env.scope.kind == .function&&env.kindOf n == some .cell)=true
  ·rw[if_pos hc]at h'
   rw[List.lookup_cons]at h' ⊢
   cases hx:x == n with
   | true=>
    refine⟨k0,rfl,.inr ?_⟩
    have:=Bool.and_eq_true_iff.mp hc|>.1
    have:=Bool.and_eq_true_iff.mp this|>.1
    simpa using this
   | false=>rw[hx]at h';exact ih h'
  ·rw[if_neg hc]at h'
   rw[List.lookup_cons]at h' ⊢
   cases hx:x == n with
   | true=>rw[hx]at h';exact⟨k0,rfl,.inl (Option.some.inj h').symm⟩
   | false=>rw[hx]at h';exact ih h'
theorem gZ {names:List (Str×NameKind)}{x:Str}{k:NameKind}(h:names.lookup x=some k):(x,k)∈names:=PySem.mem_of_lookup h
theorem ge {env:Env}:∀{names:List (Str×NameKind)} {x:Str},names.lookup x=some .free →
  (names.map λ(n,k)=>if (k == NameKind.free&&env.scope.kind == .function&&env.kindOf n == some .cell)then(n,NameKind.cell)else(n,k)).lookup x=some .cell ∨
  (names.map λ(n,k)=>if (k == NameKind.free&&env.scope.kind == .function&&env.kindOf n == some .cell)then(n,NameKind.cell)else(n,k)).lookup x=some .free
 | [],_,h=>by simp at h
 | (n,k0)::r,x,h=>by
  have ih:=@ge env r x
  show List.lookup x ((if (k0 == NameKind.free&&env.scope.kind == .function&&env.kindOf n == some .cell)=true then(n,NameKind.cell)else(n,k0))::_)=_\/List.lookup x ((if (k0 == NameKind.free&&env.scope.kind == .function&&env.kindOf n == some .cell)=true then(n,NameKind.cell)else(n,k0))::_)=_
  rw[List.lookup_cons]at h
  by_cases hc:(k0 == NameKind.free&&env.scope.kind == .function&&env.kindOf n == some .cell)=true
  ·rw[if_pos hc]
   rw[List.lookup_cons]
   cases hx:x == n with
   | true=>exact .inl rfl
   | false=>rw[hx]at h;exact ih h
  ·rw[if_neg hc]
   rw[List.lookup_cons]
   cases hx:x == n with
   | true=>rw[hx]at h;exact .inr h
   | false=>rw[hx]at h;exact ih h
section
variable {X:Cx}
structure LcScope (X:Cx)(scope:Scope)(N':List Str)(src:List (Option Nat)):Prop where
 kind:scope.kind= .function
 cel:∀y∈scope.names,y.2= .cell->scope.names.lookup y.1=some .cell
 loc:∀y∈scope.names,y.2= .local->scope.names.lookup y.1=some .local
 len:src.length=N'.length
 from_:∀(j i:Nat) (x:Str),src[j]? =some (some i)->N'[j]? =some x->X.N[i]? =some x/\scope.names.lookup x=some .free
 free:∀x,(x,NameKind.free)∈scope.names->X.env.kindOf x=some .cell\/X.env.kindOf x=some .free
def AH (K:PySem.W.Frag)(wi:TI)(src:List (Option Nat))(g:TG)(tc:TT)(te:TE):TE:=λσ H Q=>wi σ H λJ H1=> ∀D,H1 D=none->K.lookup D=none →
 ∃W:Nat->Nat->St->List V->Hp->Prop,(∃m,W 0 m (eR src σ) [] (upd H1 D (.lst [])))/\∀i m σ ys H,W i m σ ys H->H D=some (.lst ys) ∧
  ((J.stop i H/\Q (.ref D) H)\/(J.go i H/\ys.length<sizeLine/\∀x H',J.yld i H x H'->g x σ H' λσ2 H2=>tc σ2 H2 λb H3=>
   if b=true then te σ2 H3 λv H4=>H4 D=some (.lst ys)/\∃m',m'<m/\W (i+1) m' σ2 (ys++ [v]) (upd H4 D (.lst (ys++ [v])))else ∃m',m'<m/\W (i+1) m' σ2 ys H3))
def sM (X:Cx)(ifs:List Expr)(t:TT):Prop:=
 ∀(pins:List (Addr×Obj)) (s:Shared) (σ:St) (H:Hp) (Q:Bool->Hp->Prop),Inv X pins σ H s->t σ H Q →
  wpAny (model X.prog X.w) X.A (forIn ifs true λc r=>if r=true then do let ok <-isTrue c X.env (eval c X.env);pure (ForInStep.yield ok)else pure (ForInStep.yield r)) (TP X pins σ Q) X.xe s
def AB:TT:=λ_ H Q=>Q true H
theorem wM:sM X [] AB:=λ_ _ _ H _ I h=>wpAny_tests_nil ⟨H,I,h⟩
theorem wL {c:Expr}{t:TT}(h:PT X c t):sM X [c] t:=λpins s σ H Q I q=>wpAny_tests_one (h pins s σ H Q I q)
theorem jw:∀(names:List (Str×NameKind)) (h:Heap) (acc:List (Str×Addr)),(∀x y c,acc.lookup x=some c->acc.lookup y=some c->x=y)->(∀x c,acc.lookup x=some c->c<h.objs.size) →
  (∀x c,(cellsFrom h.objs.size names acc).lookup x=some c->acc.lookup x=some c\/(h.objs.size<=c/\(pushCells h names).IsCell c none)) ∧
  (∀x y c,(cellsFrom h.objs.size names acc).lookup x=some c->(cellsFrom h.objs.size names acc).lookup y=some c->x=y) ∧
  (∀x,(x,NameKind.cell)∉names->(cellsFrom h.objs.size names acc).lookup x=acc.lookup x) ∧
  (∀x,((x,NameKind.cell)∈names\/∃c,acc.lookup x=some c)->∃c,(cellsFrom h.objs.size names acc).lookup x=some c) ∧
  (∀x c,(x,NameKind.cell)∈names->(cellsFrom h.objs.size names acc).lookup x=some c->h.objs.size<=c)
 | [],h,acc,hi,_=>⟨λ_ _ e=> .inl e,hi,λ_ _=>rfl,λx e=>e.elim (λz=>absurd z List.not_mem_nil) id,λ_ _ z=>absurd z List.not_mem_nil⟩
 | (n,k)::r,h,acc,hi,hl=>by
  unfold cellsFrom pushCells
  by_cases hk:k= .cell
  ·subst hk
   rw[if_pos (by rfl),if_pos (by rfl)]
   have hz:(h.push { cls:=.type "cell",data:=.cell none }).objs.size=h.objs.size+1:=Heap.size_push ..
   have lk:∀x,((n,h.objs.size)::acc).lookup x=if x=n then some h.objs.size else acc.lookup x:=λx=>by
    rw[List.lookup_cons]
    by_cases e:x=n
    ·rw[if_pos e,beq_iff_eq.mpr e]
    ·rw[if_neg e,beq_eq_false_iff_ne.mpr e]
   obtain⟨c1,c2,c3,c4,c5⟩:=jw r (h.push { cls:=.type "cell",data:=.cell none }) ((n,h.objs.size)::acc) (λx y c e1 e2=>by
     rw[lk]at e1 e2
     by_cases q1:x=n
     ·by_cases q2:y=n
      ·rw[q1,q2]
      ·rw[if_pos q1]at e1;rw[if_neg q2]at e2
       cases e1;exact absurd (hl _ _ e2) (Nat.lt_irrefl _)
     ·rw[if_neg q1]at e1
      by_cases q2:y=n
      ·rw[if_pos q2]at e2
       cases e2;exact absurd (hl _ _ e1) (Nat.lt_irrefl _)
      ·rw[if_neg q2]at e2;exact hi x y c e1 e2) (λx c e=>by
     rw[lk]at e;rw[hz]
     by_cases q:x=n
     ·rw[if_pos q]at e;cases e;exact Nat.lt_succ_self _
     ·rw[if_neg q]at e;exact Nat.lt_succ_of_lt (hl x c e))
   rw[hz]at c1 c2 c3 c4 c5;refine⟨λx c e=> ?_,c2,λx hx=> ?_,λx hx=> ?_,λx c hx e=> ?_⟩
   ·rcases c1 x c e with z | z
    ·rw[lk]at z
     by_cases q:x=n
     ·rw[if_pos q]at z;cases z
      exact .inr ⟨Nat.le_refl _,_,pushCells_keeps r _ _ _ (Heap.get?_push_size _ rfl),rfl⟩
     ·rw[if_neg q]at z;exact .inl z
    ·exact .inr ⟨Nat.le_of_succ_le z.1,z.2⟩
   ·rw[c3 x λz=>hx (List.mem_cons_of_mem _ z),lk,if_neg λz=>hx (by rw[z];exact List.mem_cons_self)]
   ·refine c4 x ?_
    rcases hx with hx | hx
    ·rcases List.mem_cons.mp hx with z | z
     ·cases z
      exact .inr ⟨_,by rw[lk,if_pos rfl]⟩
     ·exact .inl z
    ·by_cases q:x=n
     ·exact .inr ⟨_,by rw[lk,if_pos q]⟩
     ·exact .inr (by rw[lk,if_neg q];exact hx)
   ·rcases List.mem_cons.mp hx with z | z
    ·have q:x=n:=(Prod.mk.inj z).1
     rcases c1 x c e with y | y
     ·rw[lk,if_pos q]at y;cases y;exact Nat.le_refl _
     ·exact Nat.le_of_succ_le y.1
    ·exact Nat.le_of_succ_le (c5 x c z e)
  ·have hb:¬ (k == NameKind.cell)=true:=λz=>hk (by simpa using z)
   rw[if_neg hb,if_neg hb];obtain⟨c1,c2,c3,c4,c5⟩:=jw r h acc hi hl;exact⟨c1,c2,λx hx=>c3 x λz=>hx (List.mem_cons_of_mem _ z),λx hx=>c4 x (hx.imp (λz=>(List.mem_cons.mp z).resolve_left λz=>hk (Prod.mk.inj z).2.symm) id),λx c hx=>c5 x c ((List.mem_cons.mp hx).resolve_left λz=>hk (Prod.mk.inj z).2.symm)⟩
theorem rX {M:Model}{A:Around}{E:Value->Shared->Prop}{s:Shared}{scope:Scope}{globals:Addr}{cl:List (Str×Addr)}{qual:Str}{env:Env}{Q:Env->Shared->Prop}
  (q:Q (newEnv scope s.heap.objs.size globals (cellsFrom (s.heap.objs.size+1) scope.names cl) qual none .none (some env) builtinsNs) { s with heap:=pushCells (s.heap.push { cls:=.type "dict",data:=.dict #[] }) scope.names }) :
  wpAny M A (newFunctionEnv scope globals cl [] qual none .none (some env)) Q E s:=by
 simp only[newFunctionEnv,Option.isSome_some,if_true];refine wpAny_bind (wpAny_alloc (wpAny_bind (wpAny_layCells _ (λname kind cells=>by cases hkc:kind == NameKind.cell <;> simp[hkc]) _ _ _ _ ?_)))
 rw[show({ s with heap:=s.heap.push { cls:=.type "dict",data:=.dict #[] } }:Shared).heap.objs.size=s.heap.objs.size+1 from Heap.size_push ..]
 rw[List.forIn_nil];exact wpAny_bind (wpAny_pure (wpAny_pure q))
theorem qN {elt tg iter:Expr}{ifs:List Expr}{scope:Scope}{pos fpos:Pos}{N':List Str}{src:List (Option Nat)}{wi:TI}{g:TG}{tc:TT}{te:TE}{use:Option (Value->Sem Unit)}{Qf:Value->Shared->Prop}
  {pins:List (Addr×Obj)} {s:Shared} {σ:St} {H:Hp} {Q:VK}
  (hc:X.calm=true) (S:LcScope X scope N' src) (hi:PI X tg iter wi)
  (block:∀cl C s₀ H₀ fp,PG (cq X scope cl N' C s₀ H₀ fp) tg g/\sM (cq X scope cl N' C s₀ H₀ fp) ifs tc/\PE (cq X scope cl N' C s₀ H₀ fp) elt te)
  (hs:∀x,foldedSetIterable iter X.env x=pure x) (I:Inv X pins σ H s) (h:AH X.K wi src g tc te σ H Q)
  (hend:∀(D C:Addr) (H':Hp) (s':Shared),(∃m,s'.heap.Ns C m)->(∀h',Heap.SameBut C s'.heap h'->Inv X pins σ H' { s' with heap:=h' })->(H' C=none/\C≠X.env.locals/\X.s₀.heap.objs.size<=C/\(∀x c,X.env.cells.lookup x=some c->c≠C)/\∀p∈X.pn++pins,p.1≠C)->Q (.ref D) H' →
   compPost (model X.prog X.w) X.A X.xe use Qf (.ref D) C (.ok .next) s') :
  wpAny (model X.prog X.w) X.A (comprehension (.ListComp elt [⟨tg,iter,ifs,0⟩] scope pos) scope X.env fpos (newList []) false (eval iter X.env) use) Qf X.xe s:=by
 have hcell:∀x,(x,NameKind.free)∈scope.names->∃c,X.env.cells.lookup x=some c:=λx hx=>I.ok.has x (S.free x hx)
 obtain⟨cl0,hcl,cl01,cl02⟩:=qh (env:=X.env) (scope:=scope) hcell;refine wpAny_comprehension_free (use:=use) rfl hs hcl S.kind S.loc (cf (hi pins s σ H _ I h) λv s1 h1=>cf h1 λitv s2 h2=> ?_)
 obtain⟨it,fp,tn,J,H2,e,I2,T,st2,f2,hq⟩:=h2;subst e
 -- the new list
 refine wpAny_newObj_type ?_
 have hD:H2 s2.heap.objs.size=none:=I2.hok.fresh (Nat.le_refl _)
 have hDK:X.K.lookup s2.heap.objs.size=none:=by
  cases q:X.K.lookup s2.heap.objs.size with
  | none=>rfl
  | some o=>exact absurd (Heap.lt_size (I2.kIn _ o q)) (Nat.lt_irrefl _)
 obtain⟨W,⟨m0,w0⟩,turn⟩:=hq s2.heap.objs.size hD hDK
 have I3:=I2.lnew (its:=[]) (ys:=[]) (t':=s2.toks) .nil (Nat.zero_le _)
 generalize hs3:({ s2 with heap:=s2.heap.push { cls:=.type "list",data:=.seq ([]:List Value).toArray },toks:=s2.toks }:Shared)=s3 at I3
 generalize hH3:upd H2 s2.heap.objs.size (.lst [])=H3 at I3 w0
 have hDsz:s2.heap.objs.size<s3.heap.objs.size:=by rw[<-hs3];simp[Heap.size_push]
 have fr3:∀b∈fp,H3 b=none:=λb hb=>by
  obtain⟨o,eo,_⟩:=T.obj _ _ st2 b hb;rw[<-hH3,aG (Nat.ne_of_lt (Heap.lt_size eo))];exact(f2 b hb).1
 have st3:tn 0 s3.heap:=T.keep _ _ _ st2 λb hb o e=>by rw[<-hs3];exact Heap.get?_push_of_some _ e
 have f3:∀b∈fp,jd X pins H3 b:=λb hb=>⟨fr3 b hb,(f2 b hb).2⟩
 have D3:H3 s2.heap.objs.size=some (.lst []):=by rw[<-hH3];exact aR
 generalize s2.heap.objs.size=D at*
 clear hs3 hH3 hD hDK
 -- the block's frame
 refine rX ?_
 have old:∀b o,s3.heap.get? b=some o->(pushCells (s3.heap.push { cls:=.type "dict",data:=.dict #[] }) scope.names).get? b=some o:=λb o e=>pushCells_keeps _ _ b o (Heap.get?_push_of_some _ e)
 have hns₁:(pushCells (s3.heap.push { cls:=.type "dict",data:=.dict #[] }) scope.names).Ns s3.heap.objs.size (λ_=>none):=(Heap.Ns.new s3.heap (.type "dict")).keeps (pushCells_keeps _ _)
 have hz3:(s3.heap.push { cls:=.type "dict",data:=.dict #[] }).objs.size=s3.heap.objs.size+1:=Heap.size_push ..
 have lt0:∀x c,cl0.lookup x=some c->c<s3.heap.objs.size:=λx c e=>let ⟨_,ic⟩:=I3.cell x c (cl01 x c e);ic.lt
 obtain⟨c1,c2,c3,c4,c5⟩:=jw scope.names (s3.heap.push { cls:=.type "dict",data:=.dict #[] }) cl0 (λx y c e1 e2=>I3.ok.inj x y c (cl01 x c e1) (cl01 y c e2)) λx c e=>by rw[hz3];exact Nat.lt_succ_of_lt (lt0 x c e)
 rw[hz3]at c1 c2 c3 c4 c5
 generalize hcl':cellsFrom (s3.heap.objs.size+1) scope.names cl0=cl at*
 generalize hh₁:pushCells (s3.heap.push { cls:=.type "dict",data:=.dict #[] }) scope.names=h₁ at*
 have below:∀b o,s3.heap.get? b=some o->b≠s3.heap.objs.size:=λb o e=>Nat.ne_of_lt (Heap.lt_size e)
 -- a cell of the block's: one from around,or a new one
 have cl1:∀x c,cl.lookup x=some c->X.env.cells.lookup x=some c\/(s3.heap.objs.size<c/\h₁.IsCell c none):=λx c e=>(c1 x c e).imp (cl01 x c) id
 generalize hC:s3.heap.objs.size=C at*
 have stk:∀b,b≠X.env.locals->b∉X.fs->b∉nB X.stack:=λb h1 h2 z=>(List.mem_cons.mp (I3.stkSub b z)).elim h1 h2
 have apart:∀b∈fp,∀x c,cl.lookup x=some c->c≠b:=λb hb x c e=>by
  rcases cl1 x c e with z | z
  ·exact(f3 b hb).2.2.2.2.1 x c z
  ·obtain⟨o,eo,_⟩:=T.obj _ _ st3 b hb
   have h1:=Heap.lt_size eo;rw[hC]at h1;exact Nat.ne_of_gt (Nat.lt_trans h1 z.1)
 have I4:Inv (cq X scope cl N' C s3 H3 fp) pins (eR src σ) H3 { s3 with heap:=h₁ }:=by
  refine⟨⟨I3.ok.mod,S.kind,I3.ok.glob,I3.ok.blt,Nat.le_of_eq hC,c2,λx hx=> ?_,λx c hx e=>Nat.le_of_lt (hC▸c5 x c (gZ (beq_iff_eq.mp hx)) e),I3.ok.hd,I3.ok.frames,.inl rfl,
    λb hb=>⟨?_,λx c e=>apart b hb x c e⟩,I3.bs,Nat.le_trans I3.ok.bsz I3.sz,λb o e z=> ?_,λb hb=>stk b (f3 b hb).2.1 (f3 b hb).2.2.1,I3.stack,I3.stkFree⟩,
   rfl,I3.bare,Un.kept old,⟨_,hns₁,λj x v e1 e2 e3=> ?_⟩,λx c e=> ?_,I3.hok.fresh (Nat.le_of_eq hC),λx c e=>(cl1 x c e).elim (I3.freeC x c) λz=>I3.hok.fresh (by rw[hC];exact Nat.le_of_lt z.1),λp hp=> ?_,I3.hok.kept old,?_⟩
  ·have key:∀k,(relabel scope X.env).names.lookup x=some k->(k= .cell\/k= .free)->∃c,cl.lookup x=some c:=λk e hk=>by
    obtain⟨k',e',z⟩:=gB e
    have hk':k'= .cell\/k'= .free:=z.elim (λz=>z▸hk) .inr
    rcases hk' with q | q
    ·exact c4 x (.inl (q▸gZ e'))
    ·exact c4 x (.inr (cl02 x (q▸gZ e')))
   rcases hx with hx | hx
   ·exact key _ hx (.inl rfl)
   ·exact key _ hx (.inr rfl)
  ·obtain⟨o,eo,_⟩:=T.obj _ _ st3 b hb
   show b≠C
   exact below b o eo
  ·have z':b∈fp:=z
   obtain⟨_,_,_,z1,_⟩:=f3 b z';rcases z1 with z1 | z1
   ·exact I3.ok.noex b o e z1
   ·exact absurd (Nat.lt_of_lt_of_le (Heap.lt_size (I3.ok.bs b o e).1) z1) (Nat.lt_irrefl _)
  ·unfold eR at e2
   rw[List.getElem?_map]at e2
   cases q:src[j]? with
   | none=>rw[q]at e2;simp at e2
   | some o=>
    rw[q]at e2
    cases o with
    | none=>simp at e2
    | some i=>
     have e2':(σ[i]?).join=some v:=by simpa using e2
     have e2'':σ[i]? =some (some v):=by
      cases q2:σ[i]? with
      | none=>rw[q2]at e2';simp at e2'
      | some z=>rw[q2]at e2';simp at e2';rw[e2']
     obtain⟨hN,hfree⟩:=S.from_ j i x q e1
     have hm:=gZ hfree
     have hk:=S.free x hm;obtain⟨m,hn,hl⟩:=I3.loc
     have hv:vt X.env.scope x:=by
      rcases hk with z | z
      ·exact .inr (.inl z)
      ·exact .inr (.inr z)
     obtain⟨u,r,l⟩:=hl i x v hN e2'' hv;refine⟨u,r,.inr ⟨?_,?_⟩⟩
     ·exact ge hfree
     ·rcases l with⟨z,_⟩ | ⟨_,c,ec,ic⟩
      ·rcases hk with z' | z' <;> rw[z']at z <;> cases z
      ·obtain⟨c',ec0⟩:=cl02 x hm
       have ec':cl.lookup x=some c':=(c3 x λz=>by have:=S.cel _ z rfl;rw[hfree]at this;cases this).trans ec0
       have:=cl01 x c' ec0;rw[ec]at this;cases this;obtain⟨o,ho,hd⟩:=ic;exact⟨c,ec',o,old _ _ ho,hd⟩
  ·rcases cl1 x c e with z | z
   ·obtain⟨v,o,ho,hd⟩:=I3.cell x c z
    exact⟨v,o,old _ _ ho,hd⟩
   ·exact⟨none,z.2⟩
  ·obtain⟨e,n,ne,nf,d⟩:=I3.pin p hp
   exact⟨old _ _ e,n,below _ _ e,stk _ ne nf,d⟩
  ·show(eR src σ).length=N'.length
   unfold eR;rw[List.length_map];exact S.len
 obtain⟨bG,bI,bE⟩:=block cl C s3 H3 fp
 have stat:∀{H':Hp},(∀b∈fp,H' b=none)->∀b∈fp,jd (cq X scope cl N' C s3 H3 fp) pins H' b:=λhn b hb=>by
  obtain⟨o,eo,_⟩:=T.obj _ _ st3 b hb;exact⟨hn b hb,below b o eo,stk b (f3 b hb).2.1 (f3 b hb).2.2.1,.inl hb,apart b hb,(f3 b hb).2.2.2.2.2⟩
 have st4:tn 0 h₁:=T.keep _ _ _ st3 λb hb o e=>old b o e
 -- behind the block
 have after:∀(H':Hp) (s':Shared) (σ':St),Inv (cq X scope cl N' C s3 H3 fp) pins σ' H' s'->Q (.ref D) H' →
   compPost (model X.prog X.w) X.A X.xe use Qf (.ref D) C (.ok .next) s':=λH' s' σ' I' q=>by
  obtain⟨m,hn,_⟩:=id I'.loc
  have fC:X.s₀.heap.objs.size<=C:=by rw[<-hC];exact I3.sz
  have ltC:∀b o,s3.heap.get? b=some o->b<C:=λb o e=>by rw[<-hC];exact Heap.lt_size e
  refine hend D C H' s' ⟨m,hn⟩ (λh' hsb=> ?_) ⟨I'.free,?_,fC,λx c e z=> ?_,λp hp z=> ?_⟩ q
  rotate_left
  ·have:=I3.lt;rw[hC]at this;exact Nat.ne_of_gt this
  ·obtain⟨v,ic⟩:=I3.cell x c e
   have:=ic.lt;rw[hC,z]at this;exact Nat.lt_irrefl _ this
  ·have:=ltC _ _ (I3.pin p hp).1;rw[z]at this;exact Nat.lt_irrefl _ this
  have u:Un (nB X.stack) fp H3 H' s3.heap s'.heap:=I'.base
  have lift:∀b o,s3.heap.get? b=some o->∀o',s'.heap.get? b=some o'->h'.get? b=some o':=λb o e o' e'=>hsb.extBut b o' (below b o e) e'
  have u':Un (nB X.stack) fp H3 H' s3.heap h':=
   ⟨λb o e n hb hx=>lift b o e o (u.keep b o e n hb hx),λb o e n hb hx=>by
     obtain⟨sl,z⟩:=u.slot b o e n hb hx;exact⟨sl,lift b o e _ z⟩,u.free,λb o e hx=>by
     obtain⟨o',z⟩:=u.there b o e hx;exact⟨o',lift b o e _ z⟩,u.tups,u.frzs,u.tbls⟩
  have hCn:H' C=none:=I'.free
  have hok':HOk X.prog X.w H' h':=λb ob e=>by
   refine(I'.hok b ob e).stay (λc w' hc' q'=>(hsb.2 c ?_).trans q') (λ_ q=>q) λ_ _ q=>q
   rintro rfl
   rcases hc' with rfl | hc'
   ·rw[hCn]at e;cases e
   ·rw[hCn]at hc';cases hc'
  have I5:Inv X pins σ H' { s' with heap:=h' }:=I3.call' (s':={ s' with heap:=h' }) (ch:=fp) I'.os u' hok' I'.bare λb hb=>⟨(f3 b hb).2.2.2.1,(f3 b hb).2.1,(f3 b hb).2.2.2.2.1,(f3 b hb).2.2.2.2.2⟩
  exact I5
 have loop:codeAny (model X.prog X.w) X.A (.compLoop (.ListComp elt [⟨tg,iter,ifs,0⟩] scope pos) 0 (.ref it) (.ref D) (compEnvC scope cl C X.env))
   (compPost (model X.prog X.w) X.A X.xe use Qf (.ref D) C) { s3 with heap:=h₁ }:=by
  refine nG (λn s'=> ∃i σ' ys H',Inv (cq X scope cl N' C s3 H3 fp) pins σ' H' s'/\tn i s'.heap/\(∀b∈fp,H' b=none)/\W i n σ' ys H') ?_ m0 ⟨0,_,[],H3,I4,st4,fr3,w0⟩
  rintro n s5 ⟨i,σ5,ys,H5,I5,st5,fr5,w5⟩
  obtain⟨hDl,alt⟩:=turn i n σ5 ys H5 w5;rcases alt with⟨stop,qn⟩ | ⟨go,hlen,step⟩
  ·refine cf (T.done (cq X scope cl N' C s3 H3 fp) rfl rfl rfl hc i pins s5 σ5 H5 _ I5 (stat fr5) st5 stop) λr s6 ⟨hr,I6⟩=> ?_
   subst hr;exact after H5 s6 σ5 I6 qn
  ·refine cf (T.item (cq X scope cl N' C s3 H3 fp) rfl rfl rfl hc i pins s5 σ5 H5 _ I5 (stat fr5) st5 go) λr s6 ⟨u,hr,h6⟩=> ?_
   subst hr;refine cf h6 λ_ s7 hh_=> ?_
   obtain⟨x,H7,I7,r7,y7,st7,fr7⟩:=hh_
   have I7':=I7.pinned (stat fr7) (T.obj _ _ st7);refine cf (bG _ s7 σ5 H7 x u _ I7' r7 (step x H7 y7)) λ_ s8 hh_=> ?_
   obtain⟨σ8,H8,I8,q8⟩:=hh_;refine cf (bI _ s8 σ8 H8 _ I8 q8) λok s9 hh_=> ?_
   obtain⟨H9,I9,q9⟩:=hh_
   have again:∀{σx:St} {Hx:Hp} {sx:Shared} {ys':List V},Inv (cq X scope cl N' C s3 H3 fp) (pins++kI fp s7.heap) σx Hx sx->(∃m',m'<n/\W (i+1) m' σx ys' Hx) →
     ∃m,m<n/\∃i σ' ys H',Inv (cq X scope cl N' C s3 H3 fp) pins σ' H' sx/\tn i sx.heap/\(∀b∈fp,H' b=none)/\W i m σ' ys H':=λ{σx Hx sx ys'} Ix nx=>by
    obtain⟨m',hm,wx⟩:=nx;refine⟨m',hm,i+1,σx,ys',Hx,Ix.unpinned,T.keep _ _ _ st7 λb hb o e=>(Ix.pin (b,o) (List.mem_append_right _ (List.mem_append_right _ (f9 hb e)))).1,λb hb=> ?_,wx⟩
    obtain⟨o,e,d⟩:=T.obj _ _ st7 b hb;exact(Ix.pin (b,o) (List.mem_append_right _ (List.mem_append_right _ (f9 hb e)))).2.1
   cases ok with
   | false=>
    rw[if_neg Bool.false_ne_true]at q9 ⊢
    exact again I9 q9
   | true=>
    rw[if_pos rfl]at q9 ⊢;refine cf (bE _ s9 σ8 H9 _ I9 q9) λv s10 hh_=> ?_
    obtain⟨y,H10,I10,r10,hD10,q10⟩:=hh_;refine cf (l4 _ s10 σ8 H10 (.ref D) [y] (.ref D) [v] (λ_ H'=>H'=upd H10 D (.lst (ys++ [y]))) I10 rfl (.cons r10 .nil) ⟨D,ys,y,rfl,rfl,hD10,hlen,rfl⟩) λ_ s11 hh_=> ?_
    obtain⟨_,H11,I11,_,e11⟩:=hh_;subst e11;exact again I11 q10
 exact codeAny_compStart_list loop (T.self _ 0 _ _ _ st4 loop)
theorem tV {elt tg iter:Expr}{ifs:List Expr}{scope:Scope}{pos:Pos}{N':List Str}{src:List (Option Nat)}{wi:TI}{g:TG}{tc:TT}{te:TE}
  (hc:X.calm=true) (S:LcScope X scope N' src) (hi:PI X tg iter wi)
  (block:∀cl C s₀ H₀ fp,PG (cq X scope cl N' C s₀ H₀ fp) tg g/\sM (cq X scope cl N' C s₀ H₀ fp) ifs tc/\PE (cq X scope cl N' C s₀ H₀ fp) elt te)
  (hs:∀x,foldedSetIterable iter X.env x=pure x:=by intro _;rfl) :
  PE X (.ListComp elt [⟨tg,iter,ifs,0⟩] scope pos) (AH X.K wi src g tc te):=by
 intro pins s σ H Q I h;rw[eval_ListComp];exact qN (use:=none) hc S hi block hs I h λD C H' s' ⟨m,hn⟩ inv _ q=>⟨m,hn,λh' hsb=>⟨.ref D,H',inv h' hsb,rfl,q⟩⟩
theorem Bd {elt tg iter:Expr}{ifs:List Expr}{scope:Scope}{pos py spos:Pos}{N':List Str}{src:List (Option Nat)}{wi:TI}{g:TG}{tc:TT}{te:TE}{i:Nat}{y:Str}
  (hc:X.calm=true) (S:LcScope X scope N' src) (hi:PI X tg iter wi)
  (block:∀cl C s₀ H₀ fp,PG (cq X scope cl N' C s₀ H₀ fp) tg g/\sM (cq X scope cl N' C s₀ H₀ fp) ifs tc/\PE (cq X scope cl N' C s₀ H₀ fp) elt te)
  (hN:X.N.Nodup) (hiy:X.N[i]? =some y) (hy:Loc X.env.scope y) (hsw:swapsWith (.ListComp elt [⟨tg,iter,ifs,0⟩] scope pos) (some (.Name y py)) spos.line X.env=pure true)
  (hf:X.fn y=true\/X.env.scope.names.lookup y=some .local) (hs:∀x,foldedSetIterable iter X.env x=pure x:=by intro _;rfl) :
  PS X (.Assign [.Name y py] (.ListComp elt [⟨tg,iter,ifs,0⟩] scope pos) spos) (vW (AH X.K wi src g tc te) (uW i)):=by
 intro pins s σ H D I h;rw[exec_Assign_Name_used _ _ _ _ hsw];refine wpAny_bind (wpAny_standAt (wpAny_bind ?_))
 show wpAny (model X.prog X.w) X.A (do let _ <-comprehension (.ListComp elt [⟨tg,iter,ifs,0⟩] scope pos) scope X.env _ (newList []) false (eval iter X.env) (some (assign (.Name y py) X.env))) _ _ s
 refine wpAny_bind (cf (qN (use:=some (assign (.Name y py) X.env)) (Qf:=λ_ s'=>SP X pins D .next s') (Q:=λv H'=>D.nx (σ.set i (some v)) H') hc S hi block hs I h λL C H' s' ⟨m,hn⟩ inv ⟨c0,c1,c2,c3,c4⟩ q=> ?_) λ_ s' hq=>wpAny_pure (wpAny_pure hq))
 have I0:Inv X pins σ H' s':=inv s'.heap (Heap.SameBut.refl ..)
 show wpAny (model X.prog X.w) X.A (assign (.Name y py) X.env (.ref L)) _ _ s'
 refine wpAny_assign_Name (lQ I0 hN hiy hy (v:=.ref L) rfl (λs2 I2 ⟨b,sb,hb⟩=> ?_) hf)
 have hbC:C≠b:=by
  rcases hb with z | z
  ·rw[z];exact c1
  ·exact λw=>c3 y b z w.symm
 refine⟨m,hn.sameBut sb hbC,λh' hsb=> ?_⟩
 exact⟨_,H',I2.turned (t':=s2.toks) (λb' o hb' e=>(hsb.2 b' hb').trans e) c0 c1 (.inr c2) c3 c4,q⟩
end
end L2
namespace Tr
open PySem PySem.Spec PyProof.Rows L2
inductive T where
 | non | bl (b:Bool) | int (i:Int) | str (x:Str) | tup (l:List T) | lst (l:List T)
 /-- the law's script: a list of ints that is only read -/
 | scr (l:List Int)
 /-- a dict: its keys,its values -/
 | dct (ks vs:List T)
def yd:T->Option Key
 | .int i=>some (.inl i)
 | .str x=>some (.inr x)
 | _=>none
def ld:List T->Option (List Key)
 | [] =>some []
 | t::l=>match yd t,ld l with
  | some k,some r=>some (k::r)
  | _,_=>none
def keyOf:T->Option (List Key)
 | .tup l=>ld l
 | _=>none
inductive Rs (α:Type) where
 | ok (a:α) | err (c:Str) | bad
def Rs.bind {α β:Type}(x:Rs α)(f:α->Rs β):Rs β:=match x with
 | .ok a=>f a
 | .err c=> .err c
 | .bad=> .bad
instance:Monad Rs where
 pure:=Rs.ok
 bind:=Rs.bind
@[simp] theorem aC {α β:Type} (a:α) (f:α->Rs β):(Rs.ok a >>= f)=f a:=rfl
@[simp] theorem Cd {α:Type} (a:α):(pure a:Rs α)=Rs.ok a:=rfl
@[simp] theorem B0 {α β:Type} (f:α->Rs β):((Rs.bad:Rs α) >>= f)= .bad:=rfl
@[simp] theorem BT {α β:Type} (c:Str) (f:α->Rs β):((Rs.err c:Rs α) >>= f)= .err c:=rfl
abbrev Ow:=Addr->Prop
mutual
def Rep (K:PySem.W.Frag)(O:Ow)(H:Hp):T->V->Prop
 | .non,v=>v= .non
 | .bl b,v=>v= .bl b
 | .int i,v=>v= .int i
 | .str x,v=>v= .str x
 | .tup l,v=> ∃a vs,v= .ref a/\¬ O a/\H a=some (.tup vs)/\Reps K O H l vs
 | .lst l,v=> ∃a vs,v= .ref a/\¬ O a/\H a=some (.lst vs)/\Reps K O H l vs
 | .scr l,v=> ∃a,v= .ref a/\¬ O a/\SqL K H a (l.map V.int)
 | .dct ks ts,v=> ∃a kvs,v= .ref a/\¬ O a/\H a=some (.dT kvs)/\ks.map keyOf=kvs.map (λp=>some p.1)/\Reps K O H ts (kvs.map (·.2))
def Reps (K:PySem.W.Frag)(O:Ow)(H:Hp):List T->List V->Prop
 | [],vs=>vs= []
 | t::r,vs=> ∃v ws,vs=v::ws/\Rep K O H t v/\Reps K O H r ws
end
def SameO (P:Ow)(H H':Hp):Prop:=∀b o,H b=some o->¬ P b->H' b=some o
theorem SameO.of {P:Ow}{H H':Hp}(h:Same H H'):SameO P H H':=λb o e _=>h b o e
theorem SqL.keep {K:PySem.W.Frag}{P:Ow}{H H':Hp}{a:Addr}{vs:List V}(h:SameO P H H')(n:¬ P a)(q:SqL K H a vs):SqL K H' a vs:=by
 rcases q with(q | ⟨o,q⟩) | q
 ·exact .inl (.inl (h _ _ q n))
 ·exact .inl (.inr ⟨o,h _ _ q n⟩)
 ·exact .inr q
mutual
theorem Rep.keep {K:PySem.W.Frag}{O P:Ow}{H H':Hp}(h:SameO P H H')(sub:∀a,P a->O a):∀{t:T} {v:V},Rep K O H t v->Rep K O H' t v
 | .non,_,r=>by unfold Rep at r ⊢;exact r
 | .bl _,_,r=>by unfold Rep at r ⊢;exact r
 | .int _,_,r=>by unfold Rep at r ⊢;exact r
 | .str _,_,r=>by unfold Rep at r ⊢;exact r
 | .tup l,_,r=>by
  unfold Rep at r ⊢;obtain⟨a,vs,e,n,q,z⟩:=r
  exact⟨a,vs,e,n,h _ _ q (λp=>n (sub a p)),Reps.keep h sub z⟩
 | .lst l,_,r=>by
  unfold Rep at r ⊢;obtain⟨a,vs,e,n,q,z⟩:=r
  exact⟨a,vs,e,n,h _ _ q (λp=>n (sub a p)),Reps.keep h sub z⟩
 | .scr l,_,r=>by
  unfold Rep at r ⊢;obtain⟨a,e,n,q⟩:=r
  exact⟨a,e,n,SqL.keep h (λp=>n (sub a p)) q⟩
 | .dct ks ts,_,r=>by
  unfold Rep at r ⊢;obtain⟨a,kvs,e,n,q,k,z⟩:=r;exact⟨a,kvs,e,n,h _ _ q (λp=>n (sub a p)),k,Reps.keep h sub z⟩
theorem Reps.keep {K:PySem.W.Frag}{O P:Ow}{H H':Hp}(h:SameO P H H')(sub:∀a,P a->O a):∀{l:List T} {vs:List V},Reps K O H l vs->Reps K O H' l vs
 | [],_,r=>by unfold Reps at r ⊢;exact r
 | t::l,_,r=>by
  unfold Reps at r ⊢;obtain⟨v,ws,e,p,q⟩:=r;exact⟨v,ws,e,Rep.keep h sub p,Reps.keep h sub q⟩
end
mutual
theorem Rep.less {K:PySem.W.Frag}{O O':Ow}{H:Hp}(sub:∀a,O' a->O a):∀{t:T} {v:V},Rep K O H t v->Rep K O' H t v
 | .non,_,r=>by unfold Rep at r ⊢;exact r
 | .bl _,_,r=>by unfold Rep at r ⊢;exact r
 | .int _,_,r=>by unfold Rep at r ⊢;exact r
 | .str _,_,r=>by unfold Rep at r ⊢;exact r
 | .tup l,_,r=>by
  unfold Rep at r ⊢;obtain⟨a,vs,e,n,q,z⟩:=r
  exact⟨a,vs,e,λp=>n (sub a p),q,Reps.less sub z⟩
 | .lst l,_,r=>by
  unfold Rep at r ⊢;obtain⟨a,vs,e,n,q,z⟩:=r
  exact⟨a,vs,e,λp=>n (sub a p),q,Reps.less sub z⟩
 | .scr l,_,r=>by
  unfold Rep at r ⊢;obtain⟨a,e,n,z⟩:=r
  exact⟨a,e,λp=>n (sub a p),z⟩
 | .dct ks ts,_,r=>by
  unfold Rep at r ⊢;obtain⟨a,kvs,e,n,q,k,z⟩:=r;exact⟨a,kvs,e,λp=>n (sub a p),q,k,Reps.less sub z⟩
theorem Reps.less {K:PySem.W.Frag}{O O':Ow}{H:Hp}(sub:∀a,O' a->O a):∀{l:List T} {vs:List V},Reps K O H l vs->Reps K O' H l vs
 | [],_,r=>by unfold Reps at r ⊢;exact r
 | t::l,_,r=>by
  unfold Reps at r ⊢;obtain⟨v,ws,e,p,q⟩:=r;exact⟨v,ws,e,Rep.less sub p,Reps.less sub q⟩
end
section
variable {K:PySem.W.Frag}{O:Ow}{H H':Hp}{t:T}{v:V}{l:List T}{vs:List V}
theorem Rep.same (h:Same H H')(r:Rep K O H t v):Rep K O H' t v:=Rep.keep (P:=λ_=>False) (SameO.of h) (λ_ z=>z.elim) r
theorem Reps.same (h:Same H H')(r:Reps K O H l vs):Reps K O H' l vs:=Reps.keep (P:=λ_=>False) (SameO.of h) (λ_ z=>z.elim) r
theorem Rep.non_:Rep K O H .non .non:=by unfold Rep;rfl
theorem Rep.bl_ (b:Bool):Rep K O H (.bl b) (.bl b):=by unfold Rep;rfl
theorem Rep.int_ (i:Int):Rep K O H (.int i) (.int i):=by unfold Rep;rfl
theorem Rep.str_ (x:Str):Rep K O H (.str x) (.str x):=by unfold Rep;rfl
theorem Rep.tup_iff:Rep K O H (.tup l) v↔ ∃a vs,v= .ref a/\¬ O a/\H a=some (.tup vs)/\Reps K O H l vs:=by unfold Rep;exact Iff.rfl
theorem Rep.lst_iff:Rep K O H (.lst l) v↔ ∃a vs,v= .ref a/\¬ O a/\H a=some (.lst vs)/\Reps K O H l vs:=by unfold Rep;exact Iff.rfl
theorem Rep.dct_iff {ks ts:List T}:Rep K O H (.dct ks ts) v↔ ∃a kvs,v= .ref a/\¬ O a/\H a=some (.dT kvs)/\ks.map keyOf=kvs.map (λp=>some p.1)/\Reps K O H ts (kvs.map (·.2)):=by unfold Rep;exact Iff.rfl
theorem Rep.int_iff {i:Int}:Rep K O H (.int i) v↔v= .int i:=by unfold Rep;exact Iff.rfl
theorem Rep.bl_iff {b:Bool}:Rep K O H (.bl b) v↔v= .bl b:=by unfold Rep;exact Iff.rfl
theorem Rep.str_iff {b:Str}:Rep K O H (.str b) v↔v= .str b:=by unfold Rep;exact Iff.rfl
theorem Rep.non_iff:Rep K O H .non v↔v= .non:=by unfold Rep;exact Iff.rfl
theorem Reps.nil_:Reps K O H [] []:=by unfold Reps;rfl
theorem Reps.cons_ (r:Rep K O H t v)(q:Reps K O H l vs):Reps K O H (t::l) (v::vs):=by unfold Reps;exact⟨v,vs,rfl,r,q⟩
theorem Reps.nil_iff:Reps K O H [] vs↔vs= []:=by unfold Reps;exact Iff.rfl
theorem Reps.cons_iff:Reps K O H (t::l) vs↔ ∃v ws,vs=v::ws/\Rep K O H t v/\Reps K O H l ws:=by
 constructor
 ·intro h;unfold Reps at h;exact h
 ·intro h;unfold Reps;exact h
end
section
variable {K:PySem.W.Frag}{O:Ow}{H H':Hp}
theorem Reps.length:∀{l:List T} {vs:List V},Reps K O H l vs->l.length=vs.length
 | [],vs,r=>by rw[Reps.nil_iff.mp r];rfl
 | t::l,vs,r=>by
  obtain⟨v,ws,rfl,_,q⟩:=Reps.cons_iff.mp r;simp[q.length]
theorem Reps.get:∀{l:List T} {vs:List V} {i:Nat} {t:T},Reps K O H l vs->l[i]? =some t->∃v,vs[i]? =some v/\Rep K O H t v
 | [],_,_,_,_,e=>by simp at e
 | t::l,vs,i,u,r,e=>by
  obtain⟨v,ws,rfl,p,q⟩:=Reps.cons_iff.mp r
  cases i with
  | zero=>simp at e;subst e;exact⟨v,rfl,p⟩
  | succ i=>
   obtain⟨z,e1,e2⟩:=q.get (i:=i) (t:=u) (by simpa using e)
   exact⟨z,by simpa using e1,e2⟩
theorem Reps.append:∀{l m:List T} {vs ws:List V},Reps K O H l vs->Reps K O H m ws->Reps K O H (l++m) (vs++ws)
 | [],_,vs,_,r,s=>by rw[Reps.nil_iff.mp r];exact s
 | t::l,m,vs,ws,r,s=>by
  obtain⟨v,us,rfl,p,q⟩:=Reps.cons_iff.mp r;exact Reps.cons_ p (q.append s)
theorem Reps.take:∀{l:List T} {vs:List V} (n:Nat),Reps K O H l vs->Reps K O H (l.take n) (vs.take n)
 | _,_,0,_=>Reps.nil_
 | [],vs,n+1,r=>by rw[Reps.nil_iff.mp r];exact Reps.nil_
 | t::l,vs,n+1,r=>by
  obtain⟨v,us,rfl,p,q⟩:=Reps.cons_iff.mp r;exact Reps.cons_ p (q.take n)
theorem Reps.drop:∀{l:List T} {vs:List V} (n:Nat),Reps K O H l vs->Reps K O H (l.drop n) (vs.drop n)
 | _,_,0,r=>r
 | [],vs,n+1,r=>by rw[Reps.nil_iff.mp r];exact Reps.nil_
 | t::l,vs,n+1,r=>by
  obtain⟨v,us,rfl,p,q⟩:=Reps.cons_iff.mp r;exact q.drop n
theorem Reps.ints:∀{ns:List Int},Reps K O H (ns.map T.int) (ns.map V.int)
 | [] =>Reps.nil_
 | n::r=>Reps.cons_ (Rep.int_ n) Reps.ints
end
inductive OT where
 | lst (l:List T) | dct (ks ts:List T) | dd (ks:List T) (rows:List (List T×List T))
def OT.view:OT->T
 | .lst l=> .lst l
 | .dct ks ts=> .dct ks ts
 | .dd ks rows=> .dct ks (rows.map λr=> .dct r.1 r.2)
def RowsR (K:PySem.W.Frag)(O:Ow)(H:Hp):List (List T×List T)->List Addr->Prop
 | [],as=>as= []
 | r::rs,as=> ∃b bs kvs,as=b::bs/\H b=some (.dT kvs)/\r.1.map keyOf=kvs.map (λp=>some p.1)/\Reps K O H r.2 (kvs.map (·.2))/\RowsR K O H rs bs
def ORep (K:PySem.W.Frag)(O M:Ow)(H:Hp):OT->V->Prop
 | .lst l,v=> ∃a vs,v= .ref a/\(∀b,M b↔b=a)/\H a=some (.lst vs)/\Reps K O H l vs
 | .dct ks ts,v=> ∃a kvs,v= .ref a/\(∀b,M b↔b=a)/\H a=some (.dT kvs)/\ks.map keyOf=kvs.map (λp=>some p.1)/\Reps K O H ts (kvs.map (·.2))
 | .dd ks rows,v=> ∃a kvs as,v= .ref a/\(∀b,M b↔b=a\/b∈as)/\a∉as/\as.Nodup/\H a=some (.dT kvs)/\ks.map keyOf=kvs.map (λp=>some p.1)/\kvs.map (·.2)=as.map V.ref/\RowsR K O H rows as
inductive Sl where
 | em | va (t:T) | ow (o:OT)
abbrev En:=List Sl
abbrev Mn:=Nat->Ow
def Mn.u (M:Mn):Ow:=λa=> ∃i,M i a
def Mtb (H:Hp)(a:Addr):Prop:=(∃vs,H a=some (.lst vs))\/∃kvs,H a=some (.dT kvs)
theorem Mtb.some {H:Hp}{a:Addr}(h:Mtb H a):∃o,H a=some o:=h.elim (λ⟨_,e⟩=>⟨_,e⟩) λ⟨_,e⟩=>⟨_,e⟩
theorem Mtb.same {H H':Hp}(s:Same H H'){a:Addr}(h:Mtb H a):Mtb H' a:=h.elim (λ⟨vs,e⟩=> .inl ⟨vs,s _ _ e⟩) λ⟨k,e⟩=> .inr ⟨k,s _ _ e⟩
structure EnvM (K:PySem.W.Frag)(O:Ow)(M:Mn)(H:Hp)(Z:En)(σ:L2.St):Prop where
 len:Z.length=σ.length
 val:∀(i:Nat) (t:T),Z[i]? =some (.va t)->∃v,σ[i]? =some (some v)/\Rep K O H t v
 own:∀(i:Nat) (o:OT),Z[i]? =some (.ow o)->∃v,σ[i]? =some (some v)/\ORep K O (M i) H o v
 sub:∀(i:Nat) (a:Addr),M i a->O a
 dis:∀(i j:Nat) (a:Addr),M i a->M j a->i=j
 trk:∀(a:Addr),O a->Mtb H a
theorem RowsR.same {K:PySem.W.Frag}{O:Ow}{H H':Hp}(h:Same H H'):∀{rs:List (List T×List T)} {as:List Addr},RowsR K O H rs as->RowsR K O H' rs as
 | [],_,r=>r
 | _::_,_,⟨b,bs,kvs,e1,e2,e3,e4,e5⟩=>⟨b,bs,kvs,e1,h _ _ e2,e3,e4.same h,e5.same h⟩
theorem ORep.same {K:PySem.W.Frag}{O M:Ow}{H H':Hp}(h:Same H H'){o:OT}{v:V}(r:ORep K O M H o v):ORep K O M H' o v:=by
 cases o with
 | lst l=>obtain⟨a,vs,e1,e2,e3,e4⟩:=r;exact⟨a,vs,e1,e2,h _ _ e3,e4.same h⟩
 | dct ks ts=>obtain⟨a,kvs,e1,e2,e3,e4,e5⟩:=r;exact⟨a,kvs,e1,e2,h _ _ e3,e4,e5.same h⟩
 | dd ks rows=>obtain⟨a,kvs,as,e1,e2,e3,e4,e5,e6,e7,e8⟩:=r;exact⟨a,kvs,as,e1,e2,e3,e4,h _ _ e5,e6,e7,e8.same h⟩
theorem EnvM.same {K:PySem.W.Frag}{O:Ow}{M:Mn}{H H':Hp}{Z:En}{σ:L2.St}(h:Same H H')(e:EnvM K O M H Z σ):EnvM K O M H' Z σ where
 len:=e.len
 val:=λi t q=>let ⟨v,e1,e2⟩:=e.val i t q;⟨v,e1,e2.same h⟩
 own:=λi o q=>let ⟨v,e1,e2⟩:=e.own i o q;⟨v,e1,e2.same h⟩
 sub:=e.sub
 dis:=e.dis
 trk:=λa q=>(e.trk a q).same h
def EnvO (K:PySem.W.Frag)(O:Ow)(H:Hp)(Z:En)(σ:L2.St):Prop:=∃M,EnvM K O M H Z σ
section
variable {K:PySem.W.Frag}{O:Ow}{H H':Hp}{Z:En}{σ:L2.St}
theorem EnvO.val (e:EnvO K O H Z σ)(i:Nat)(t:T)(q:Z[i]? =some (.va t)):∃v,σ[i]? =some (some v)/\Rep K O H t v:=e.elim λ_ e=>e.val i t q
theorem EnvO.mtb (e:EnvO K O H Z σ):∀a,O a->Mtb H a:=e.elim λ_ e=>e.trk
theorem EnvO.trk (e:EnvO K O H Z σ)(a:Addr)(z:O a):∃o,H a=some o:=(e.mtb a z).some
theorem EnvO.same (h:Same H H')(e:EnvO K O H Z σ):EnvO K O H' Z σ:=e.elim λM e=>⟨M,e.same h⟩
theorem EnvO.fresh (e:EnvO K O H Z σ){p:Addr}(h:H p=none):¬ O p:=λz=>by
 obtain⟨o,q⟩:=e.trk p z;rw[h]at q;cases q
end
def Co (h:Heap)(C e:Addr):Option Addr->Prop
 | none=> ∃oe vs,h.get? e=some oe/\oe.cls= .ref C/\oe.data= .fields vs/\vs[1]? =some .none
 | some T=>T≠e/\∃oe vs,h.get? e=some oe/\oe.cls= .ref C/\oe.data= .fields vs/\vs[1]? =some (.ref T)/\∃oT ts,h.get? T=some oT/\oT.data= .fields ts/\ts[3]? =some .none
def RzP (X:Cx)(pins:List (Addr×Obj))(P:Ow)(H:Hp)(c:Str)(ev:Value)(s':Shared):Prop:=
 ∃e T C σ' H',ev= .ref e/\X.mg c=some (.ref C)/\Inv X pins σ' H' s'/\SameO P H H'/\H' e=none/\(X.ex= []->X.s₀.heap.get? e=none)/\Co s'.heap C e T/\(∀t,T=some t->H' t=none/\(X.ex= []->X.s₀.heap.get? t=none))/\∀p∈X.pn++pins,p.1≠e/\T≠some p.1
def Nw (K:PySem.W.Frag)(H:Hp):Ow:=λa=>H a=none/\K.lookup a=none
theorem f7 {K:PySem.W.Frag}{P:Ow}{H H1:Hp}(h:SameO P H H1){a:Addr}(n:Nw K H1 a):P a\/Nw K H a:=by
 by_cases hp:P a
 ·exact .inl hp
 ·refine .inr ⟨?_,n.2⟩
  cases q:H a with
  | none=>rfl
  | some o=>have:=h a o q hp;rw[n.1]at this;cases this
theorem SameO.trans {K:PySem.W.Frag}{P P1:Ow}{H H1 H2:Hp}(h:SameO P H H1)(h1:SameO P1 H1 H2)(sub:∀a,P1 a->P a\/Nw K H a):SameO P H H2:=λb o e n=>
 h1 b o (h b o e n) λz=>(sub b z).elim n λw=>by rw[w.1]at e;cases e
def XA (X:Cx)(P:Ow)(H:Hp)(c:Str):Prop:=∀pins ev s',RzP X pins P H c ev s'->X.xe ev s'
theorem XA.later {X:Cx}{P P1:Ow}{H H1:Hp}{c:Str}(h:XA X P H c)(s:SameO P H H1)(sub:∀a,P1 a->P a\/Nw X.K H a):XA X P1 H1 c:=λpins ev s' ⟨e,T,C,σ',H',a1,a2,a3,a4,a5⟩=>
 h pins ev s' ⟨e,T,C,σ',H',a1,a2,a3,s.trans a4 sub,a5⟩
abbrev sL:Ow:=λ_=>False
def Post {α:Type}(X:Cx)(H:Hp)(r:Rs α)(k:α->Hp->Prop):Prop:=match r with
 | .ok t=> ∀H',Same H H'->k t H'
 | .err c=>XA X sL H c
 | .bad=>False
theorem Post.mono {α:Type}{X:Cx}{H:Hp}{r:Rs α}{k k':α->Hp->Prop}(h:Post X H r k)(f:∀t H',Same H H'->k t H'->k' t H'):Post X H r k':=by
 cases r with
 | ok t=>exact λH' s=>f t H' s (h H' s)
 | err c=>exact h
 | bad=>exact h
theorem Post.later {α:Type}{X:Cx}{H H1:Hp}{r:Rs α}{k:α->Hp->Prop}(h:Post X H r k)(s:Same H H1):Post X H1 r k:=by
 cases r with
 | ok t=>exact λH' s'=>h H' (s.trans s')
 | err c=>exact XA.later h (SameO.of s) λ_ z=>z.elim
 | bad=>exact h
theorem Post.bind {α β:Type}{X:Cx}{H:Hp}{r:Rs α}{f:α->Rs β}{k:β->Hp->Prop}(h:Post X H (r >>= f) k):Post X H r λt H'=>Post X H' (f t) k:=by
 cases r with
 | ok t=>exact λH' s=>Post.later h s
 | err c=>exact h
 | bad=>exact h
def tP (X:Cx)(f:En->Rs T):TE:=λσ H Q=> ∃Z O,EnvO X.K O H Z σ/\Post X H (f Z) λt H'=> ∀v,Rep X.K O H' t v->Q v H'
def tPA (X:Cx)(f:En->Rs (List T)):TA:=λσ H Q=> ∃Z O,EnvO X.K O H Z σ/\Post X H (f Z) λt H'=> ∀v,Reps X.K O H' t v->Q v H'
def sY (X:Cx)(f:En->Rs Bool):TT:=λσ H Q=> ∃Z O,EnvO X.K O H Z σ/\Post X H (f Z) λb H'=>Q b H'
abbrev cg (X:Cx)(e:Expr)(f:En->Rs T):Prop:=PE X e (tP X f)
abbrev nP (X:Cx)(e:List Expr)(f:En->Rs (List T)):Prop:=PA X e (tPA X f)
abbrev pE (X:Cx)(e:Expr)(f:En->Rs Bool):Prop:=PT X e (sY X f)
theorem PE.imp {X:Cx}{e:Expr}{t t':TE}(h:PE X e t)(w:∀σ H Q,t' σ H Q->t σ H Q):PE X e t':=λpins s σ H Q I q=>h pins s σ H Q I (w σ H Q q)
theorem PA.imp {X:Cx}{e:List Expr}{t t':TA}(h:PA X e t)(w:∀σ H Q,t' σ H Q->t σ H Q):PA X e t':=λpos pins s σ H Q I q=>h pos pins s σ H Q I (w σ H Q q)
theorem PT.imp {X:Cx}{e:Expr}{t t':TT}(h:PT X e t)(w:∀σ H Q,t' σ H Q->t σ H Q):PT X e t':=λpins s σ H Q I q=>h pins s σ H Q I (w σ H Q q)
theorem PS.imp {X:Cx}{e:Stmt}{t t':TS}(h:PS X e t)(w:∀D σ H,t' D σ H->t D σ H):PS X e t':=λpins s σ H D I q=>h pins s σ H D I (w D σ H q)
theorem PSs.imp {X:Cx}{e:List Stmt}{t t':TS}(h:PSs X e t)(w:∀D σ H,t' D σ H->t D σ H):PSs X e t':=λpins s σ H D I q=>h pins s σ H D I (w D σ H q)
section
variable {X:Cx}
theorem aS {σ:L2.St}{H:Hp}{Z:En}{O:Ow}{α:Type}{f:En->Rs T}{k:T->Rs α}{Q:α->Hp->Prop}(E:EnvO X.K O H Z σ)(h:Post X H (f Z >>= k) Q) :
  tP X f σ H λv H'=> ∃t,Rep X.K O H' t v/\Same H H'/\EnvO X.K O H' Z σ/\Post X H' (k t) Q:=
 ⟨Z,O,E,Post.mono h.bind λt H' s q v r=>⟨t,r,s,E.same s,q⟩⟩
theorem dZ {σ:L2.St}{H:Hp}{Z:En}{O:Ow}{α:Type}{f:En->Rs (List T)}{k:List T->Rs α}{Q:α->Hp->Prop}(E:EnvO X.K O H Z σ)(h:Post X H (f Z >>= k) Q) :
  tPA X f σ H λv H'=> ∃t,Reps X.K O H' t v/\Same H H'/\EnvO X.K O H' Z σ/\Post X H' (k t) Q:=
 ⟨Z,O,E,Post.mono h.bind λt H' s q v r=>⟨t,r,s,E.same s,q⟩⟩
theorem iK {σ:L2.St}{H:Hp}{Z:En}{O:Ow}{α:Type}{f:En->Rs Bool}{k:Bool->Rs α}{Q:α->Hp->Prop}(E:EnvO X.K O H Z σ)(h:Post X H (f Z >>= k) Q) :
  sY X f σ H λb H'=>Same H H'/\EnvO X.K O H' Z σ/\Post X H' (k b) Q:=
 ⟨Z,O,E,Post.mono h.bind λt H' s q=>⟨s,E.same s,q⟩⟩
def vr (i:Nat)(Z:En):Rs T:=match Z[i]? with
 | some (.va t)=> .ok t
 | _=> .bad
def cn (t:T)(_:En):Rs T:=.ok t
theorem AY (i:Nat){x:Str}{pos:Pos}(hN:X.N[i]? =some x:=by rfl)(hv:vt X.env.scope x:=by first | exact Or.inl rfl | exact Or.inr (Or.inl rfl) | exact Or.inr (Or.inr rfl))(hd:(x == ("__debug__" : Str))=false:=by decide)
  (hcd:(x == ("__classdict__" : Str))=false:=by decide):cg X (.Name x pos) (vr i):=PE.imp (mZ hN hv hd hcd) λσ H Q hh_=>by
 obtain⟨Z,O,E,h⟩:=hh_;unfold vr at h
 split at h
 ·rename_i t e
  obtain⟨v,e1,e2⟩:=E.val i t e;exact⟨v,e1,h H (Same.refl H) v e2⟩
 ·exact h.elim
theorem A7 {i j pos}:cg X (.Constant (.int i) j pos) (cn (.int i)):=PE.imp tW λσ H Q ⟨Z,O,E,h⟩=>h H (Same.refl H) _ (Rep.int_ i)
theorem q_bl {i j pos}:cg X (.Constant (.bool i) j pos) (cn (.bl i)):=PE.imp Bg λσ H Q ⟨Z,O,E,h⟩=>h H (Same.refl H) _ (Rep.bl_ i)
theorem A3 {j pos}:cg X (.Constant .none j pos) (cn .non):=PE.imp zk λσ H Q ⟨Z,O,E,h⟩=>h H (Same.refl H) _ Rep.non_
theorem yZ {x:Str}{i:Int}{u:Value}{pos:Pos}(hm:X.mg x=some u)(r:RelV (.int i) u)(hg:Gl X x:=by rfl)(hd:(x == ("__debug__" : Str))=false:=by decide):cg X (.Name x pos) (cn (.int i)):=
 PE.imp (wS hg hm r hd) λσ H Q ⟨Z,O,E,h⟩=>h H (Same.refl H) _ (Rep.int_ i)
def ah (_:En):Rs (List T):=.ok []
def ac (f:En->Rs T)(g:En->Rs (List T))(Z:En):Rs (List T):=do
 let t <-f Z
 let r <-g Z
 .ok (t::r)
theorem yY:nP X [] ah:=PA.imp kJ λσ H Q ⟨Z,O,E,h⟩=>h H (Same.refl H) _ Reps.nil_
theorem wy {e:Expr}{es:List Expr}{f:En->Rs T}{g:En->Rs (List T)}(he:cg X e f)(hr:nP X es g)(hs:starEach (e::es) X.env=(false,eval e X.env)::starEach es X.env:=by rfl):nP X (e::es) (ac f g):=by
 intro pos pins s σ H Q I h;obtain⟨Z,O,E,h⟩:=h;refine gV he hr hs pos pins s σ H Q I ?_
 obtain⟨Z1,O1,E1,h1⟩:=aS E h;refine⟨Z1,O1,E1,Post.mono h1 λt H' s q v r=> ?_⟩
 obtain⟨t',r',s',E',q'⟩:=q v r;refine⟨Z,O,E',Post.mono q'.bind λts H2 s2 q2 vs rs=> ?_⟩
 exact q2 H2 (Same.refl H2) _ (Reps.cons_ (r'.same s2) rs)
end
section
variable {X:Cx}
def ii (l:List T):Rs T:=if l.length<=sizeLine then .ok (.tup l)else .bad
def ij (l:List T):Rs T:=if l.length<=sizeLine then .ok (.lst l)else .bad
def bq (f:En->Rs (List T))(Z:En):Rs T:=f Z >>= ii
def c7 (f:En->Rs (List T))(Z:En):Rs T:=f Z >>= ij
theorem aP {H:Hp}{p:Addr}(h:H p=none)(o:HO):Same H (upd H p o):=λb u q=>by rw[aG (bK q h)];exact q
theorem fo {K:PySem.W.Frag}{O:Ow}{H:Hp}{p:Addr}{l:List T}{vs:List V}(h:H p=none)(n:¬ O p)(r:Reps K O H l vs):Rep K O (upd H p (.tup vs)) (.tup l) (.ref p):=
 Rep.tup_iff.mpr ⟨p,vs,rfl,n,aR,r.same (aP h _)⟩
theorem fN {K:PySem.W.Frag}{O:Ow}{H:Hp}{p:Addr}{l:List T}{vs:List V}(h:H p=none)(n:¬ O p)(r:Reps K O H l vs):Rep K O (upd H p (.lst vs)) (.lst l) (.ref p):=
 Rep.lst_iff.mpr ⟨p,vs,rfl,n,aR,r.same (aP h _)⟩
theorem AZ {es:List Expr}{x1:Nat}{pos:Pos}{f:En->Rs (List T)}(h:nP X es f):cg X (.Tuple es x1 pos) (bq f):=by
 intro pins s σ H Q I ⟨Z,O,E,hq⟩;refine zh h pins s σ H Q I ?_
 obtain⟨Z1,O1,E1,h1⟩:=dZ E hq;refine⟨Z1,O1,E1,Post.mono h1 λts H1 s1 q vs r=> ?_⟩
 obtain⟨t',r',s',E',q'⟩:=q vs r;unfold ii at q'
 split at q'
 ·rename_i hz
  refine⟨by rw[<-r'.length];exact hz,λp hp=> ?_⟩
  exact q' _ (aP hp _) _ (fo hp (E'.fresh hp) r')
 ·exact q'.elim
theorem A5 {es:List Expr}{pos:Pos}{f:En->Rs (List T)}(h:nP X es f):cg X (.List es pos) (c7 f):=by
 intro pins s σ H Q I ⟨Z,O,E,hq⟩;refine zl h pins s σ H Q I ?_
 obtain⟨Z1,O1,E1,h1⟩:=dZ E hq;refine⟨Z1,O1,E1,Post.mono h1 λts H1 s1 q vs r=> ?_⟩
 obtain⟨t',r',s',E',q'⟩:=q vs r;unfold ij at q'
 split at q'
 ·rename_i hz
  refine⟨by rw[<-r'.length];exact hz,λp hp=> ?_⟩
  exact q' _ (aP hp _) _ (fN hp (E'.fresh hp) r')
 ·exact q'.elim
def OpT (X:Cx)(f:Value->Value->Sem Value)(g:T->T->Rs T):Prop:=
 ∀(pins:List (Addr×Obj)) (s:Shared) (σ:L2.St) (H:Hp) (O:Ow) (x y:T) (vx vy:V) (ux uy:Value) (Q:VK),Inv X pins σ H s->(∀p,H p=none->¬ O p)->Rep X.K O H x vx->Rep X.K O H y vy->RelV vx ux->RelV vy uy →
  Post X H (g x y) (λt H'=> ∀v,Rep X.K O H' t v->Q v H')->wpAny (model X.prog X.w) X.A (f ux uy) (EP X pins σ Q) X.xe s
def o2 (g:T->T->Rs T)(fa fb:En->Rs T)(Z:En):Rs T:=do
 let x <-fa Z
 let y <-fb Z
 g x y
variable {a b c:Expr}{fa fb fc:En->Rs T}{pos:Pos}
theorem Ba {op:Operator}{g:T->T->Rs T}(ho:OpT X (binaryOp op) g)(ha:cg X a fa)(hb:cg X b fb):cg X (.BinOp a op b pos) (o2 g fa fb):=by
 intro pins s σ H Q I ⟨Z,O,E,hq⟩
 have h1:=aS E hq;refine wpAny_BinOp (cf (ha pins s σ H _ I h1) λv s1 hh_=> ?_)
 obtain⟨x,H1,I1,r1,t,rt,s',E',q1⟩:=hh_
 have h2:=aS (f:=fb) E' q1;refine cf (hb pins s1 σ H1 _ I1 h2) λu s2 hh_=> ?_
 obtain⟨y,H2,I2,r2,t2,rt2,s'',E'',q2⟩:=hh_;exact ho pins s2 σ H2 O t t2 x y v u Q I2 (λp=>E''.fresh) (rt.same s'') rt2 r1 r2 q2
theorem A9 {op:CmpOp}{g:T->T->Rs T}(ho:OpT X (compareOp op) g)(ha:cg X a fa)(hb:cg X b fb)(hm:behindInMarks op b=false:=by rfl):cg X (.Compare a [op] [b] pos) (o2 g fa fb):=by
 intro pins s σ H Q I ⟨Z,O,E,hq⟩
 have h1:=aS E hq;refine wpAny_Compare1 (cf (ha pins s σ H _ I h1) λv s1 ⟨x,H1,I1,r1,t,rt,s',E',q1⟩=> ?_) hm
 have h2:=aS (f:=fb) E' q1;refine cf (hb pins s1 σ H1 _ I1 h2) λu s2 hh_=> ?_
 obtain⟨y,H2,I2,r2,t2,rt2,s'',E'',q2⟩:=hh_;exact ho pins s2 σ H2 O t t2 x y v u Q I2 (λp=>E''.fresh) (rt.same s'') rt2 r1 r2 q2
theorem OpT.of {f:Value->Value->Sem Value}{r:R2}(h:mG X f r){g:T->T->Rs T}
  (w:∀(H:Hp) (O:Ow) (x y:T) (vx vy:V) (Q:VK),(∀p,H p=none->¬ O p)->Rep X.K O H x vx->Rep X.K O H y vy->Post X H (g x y) (λt H'=> ∀v,Rep X.K O H' t v->Q v H')->r vx vy H Q):OpT X f g:=
 λpins s σ H O x y vx vy ux uy Q I hf rx ry r1 r2 hp=>h pins s σ H vx vy ux uy Q I r1 r2 (w H O x y vx vy Q hf rx ry hp)
def eF:T->T->Rs T
 | .int i,.int j=> .ok (.int (i - j))
 | _,_=> .bad
theorem eI:OpT X (binaryOp .Sub) eF:=OpT.of zo λH O x y vx vy Q hf rx ry hp=>by
 unfold eF at hp
 split at hp
 ·exact⟨_,_,Rep.int_iff.mp rx,Rep.int_iff.mp ry,hp H (Same.refl H) _ (Rep.int_ _)⟩
 ·exact hp.elim
def i9:T->T->Rs T
 | .int i,.int j=>if 0<j/\j<1073741824 then .ok (.int (i / j))else .bad
 | _,_=> .bad
def hY:T->T->Rs T
 | .int i,.int j=>if 0<j then .ok (.int (i % j))else .bad
 | _,_=> .bad
theorem ka:OpT X (binaryOp .FloorDiv) i9:=OpT.of wX λH O x y vx vy Q hf rx ry hp=>by
 unfold i9 at hp
 split at hp
 ·split at hp
  ·rename_i h
   exact⟨_,_,Rep.int_iff.mp rx,Rep.int_iff.mp ry,h,hp H (Same.refl H) _ (Rep.int_ _)⟩
  ·exact hp.elim
 ·exact hp.elim
theorem gz:OpT X (binaryOp .Mod) hY:=OpT.of zr λH O x y vx vy Q hf rx ry hp=>by
 unfold hY at hp
 split at hp
 ·split at hp
  ·rename_i h
   exact⟨_,_,Rep.int_iff.mp rx,Rep.int_iff.mp ry,h,hp H (Same.refl H) _ (Rep.int_ _)⟩
  ·exact hp.elim
 ·exact hp.elim
theorem ud:mG X (binaryOp .Add) (λx y H Q=> ∃a b ys,x= .ref a/\y= .ref b/\SqT X.K H a []/\SqT X.K H b ys/\Q (.ref b) H):=by
 intro pins s σ H x y v u Q I rx ry h;obtain⟨a,b,ys,rfl,rfl,ha,hb,q⟩:=h;cases rx;cases ry;obtain⟨its,r1,p1,_⟩:=I.tuple ha;obtain⟨its2,r2,p2,_⟩:=I.tuple hb;obtain⟨⟨cls,dd,data,sl⟩,ho,hc,n,hd⟩:=id p1;obtain⟨⟨cls2,dd2,data2,sl2⟩,ho2,hc2,n2,hd2⟩:=id p2;simp only at hc hd hc2 hd2;subst hc hd hc2 hd2
 have e:its= []:=by cases r1;rfl
 subst e;exact HT_concat0 ho ho2 ⟨.ref b,H,I,rfl,q⟩
where
 HT_concat0 {prog:Program} {w:World} {A:Around} {E:Value->Shared->Prop} {s:Shared} {t b:Addr} {ws:Array Value} {n n2:Nat} {dd dd2:Option Addr} {sl sl2:Array (Option Value)} {Q:Value->Shared->Prop}
   (ho:s.heap.get? t=some { cls:=.type "tuple",dict:=dd,data:=.seq (([]:List Value).toArray) n,slots:=sl }) (ho2:s.heap.get? b=some { cls:=.type "tuple",dict:=dd2,data:=.seq ws n2,slots:=sl2 }) (h:Q (.ref b) s) :
   wpAny (model prog w) A (binaryOp .Add (.ref t) (.ref b)) Q E s:=
  concat_meets ⟨_,ho,rfl⟩ ⟨_,ho2,rfl⟩ noFill_tuple_add seq_tuple_add PySem.F.slot_tuple_add PySem.F.entry_tuple_add (PySem.F.args_tuple_add_2 _ _)
   (tuple_addW0 t b _ _ n n2 dd dd2 sl sl2 (by simp)) ⟨ho,ho2,h⟩
def aJ:T->T->Rs T
 | .int i,.int j=> .ok (.int (i+j))
 | .str i,.str j=>if i.length+j.length<=sizeLine then .ok (.str (i++j))else .bad
 | .tup l,.tup m=>ii (l++m)
 | .lst l,.lst m=>ij (l++m)
 | _,_=> .bad
theorem aK:OpT X (binaryOp .Add) aJ:=by
 intro pins s σ H O x y vx vy ux uy Q I hf rx ry r1 r2 hp;unfold aJ at hp
 split at hp
 ·exact zw pins s σ H vx vy ux uy Q I r1 r2 ⟨_,_,Rep.int_iff.mp rx,Rep.int_iff.mp ry,hp H (Same.refl H) _ (Rep.int_ _)⟩
 ·split at hp
  ·rename_i h
   exact pU pins s σ H vx vy ux uy Q I r1 r2 ⟨_,_,Rep.str_iff.mp rx,Rep.str_iff.mp ry,h,hp H (Same.refl H) _ (Rep.str_ _)⟩
  ·exact hp.elim
 ·rename_i l m
  unfold ii at hp
  split at hp
  ·rename_i h
   obtain⟨a,vs,e1,n1,q1,z1⟩:=Rep.tup_iff.mp rx;obtain⟨b,ws,e2,n2,q2,z2⟩:=Rep.tup_iff.mp ry
   have hl1:=z1.length
   have hl2:=z2.length;rw[List.length_append]at h
   cases vs with
   | nil=>
    have e:l= []:=by cases l with
     | nil=>rfl
     | cons _ _=>simp at hl1
    subst e
    exact ud pins s σ H vx vy ux uy Q I r1 r2 ⟨a,b,ws,e1,e2,SqT.of q1,SqT.of q2,hp H (Same.refl H) _ (Rep.tup_iff.mpr ⟨b,ws,rfl,n2,q2,z2⟩)⟩
   | cons v0 vr=>
    refine wY pins s σ H vx vy ux uy Q I r1 r2 ⟨a,b,v0::vr,ws,e1,e2,SqT.of q1,SqT.of q2,by simp,by omega,λhw=> ?_,λ_ p hpn=> ?_⟩
    ·subst hw
     have e:m= []:=by cases m with
      | nil=>rfl
      | cons _ _=>simp at hl2
     subst e;rw[List.append_nil]at hp;exact hp H (Same.refl H) _ (Rep.tup_iff.mpr ⟨a,_,rfl,n1,q1,z1⟩)
    ·exact hp _ (aP hpn _) _ (fo hpn (hf p hpn) (z1.append z2))
  ·exact hp.elim
 ·rename_i l m
  unfold ij at hp
  split at hp
  ·rename_i h
   obtain⟨a,vs,e1,n1,q1,z1⟩:=Rep.lst_iff.mp rx;obtain⟨b,ws,e2,n2,q2,z2⟩:=Rep.lst_iff.mp ry
   have hl1:=z1.length
   have hl2:=z2.length;rw[List.length_append]at h;exact zv pins s σ H vx vy ux uy Q I r1 r2 ⟨a,b,vs,ws,e1,e2,q1,q2,by omega,λp hpn=>hp _ (aP hpn _) _ (fN hpn (hf p hpn) (z1.append z2))⟩
  ·exact hp.elim
 ·exact hp.elim
def pZ:T->T->Rs T
 | .int i,.int j=>if (-(2 ^ 64)<i/\i<2 ^ 64)\/(-(2 ^ 64)<j/\j<2 ^ 64)then .ok (.int (i*j))else .bad
 | .lst l,.int k=>if -(2 ^ 63)<=k/\k<2 ^ 63/\l.length*k.toNat<=sizeLine then .ok (.lst (List.replicate k.toNat l).flatten)else .bad
 | _,_=> .bad
theorem Reps.rep {K:PySem.W.Frag}{O:Ow}{H:Hp}{l:List T}{vs:List V}(h:Reps K O H l vs):∀k:Nat,Reps K O H (List.replicate k l).flatten (List.replicate k vs).flatten
 | 0=>Reps.nil_
 | k+1=>by rw[List.replicate_succ,List.replicate_succ,List.flatten_cons,List.flatten_cons];exact h.append (h.rep k)
theorem zn:OpT X (binaryOp .Mult) pZ:=by
 intro pins s σ H O x y vx vy ux uy Q I hf rx ry r1 r2 hp;unfold pZ at hp
 split at hp
 ·split at hp
  ·rename_i h
   exact zq pins s σ H vx vy ux uy Q I r1 r2 ⟨_,_,Rep.int_iff.mp rx,Rep.int_iff.mp ry,h,hp H (Same.refl H) _ (Rep.int_ _)⟩
  ·exact hp.elim
 ·split at hp
  ·rename_i l k h
   obtain⟨a,vs,e1,n1,q1,z1⟩:=Rep.lst_iff.mp rx
   have hl1:=z1.length;exact zp pins s σ H vx vy ux uy Q I r1 r2 ⟨a,k,vs,e1,Rep.int_iff.mp ry,q1,h.1,h.2.1,by rw[<-hl1];exact h.2.2,λp hpn=>hp _ (aP hpn _) _ (fN hpn (hf p hpn) (z1.rep _))⟩
  ·exact hp.elim
 ·exact hp.elim
def oU:T->Rs T
 | .int i=> .ok (.int (-i))
 | _=> .bad
def o1 (g:T->Rs T)(fa:En->Rs T)(Z:En):Rs T:=fa Z >>= g
theorem A4 (ha:cg X a fa):cg X (.UnaryOp .USub a pos) (o1 oU fa):=by
 intro pins s σ H Q I ⟨Z,O,E,hq⟩;refine x6 sW ha pins s σ H Q I ?_
 obtain⟨Z1,O1,E1,h1⟩:=aS E hq;refine⟨Z1,O1,E1,Post.mono h1 λts H1 s1 q vs r=> ?_⟩
 obtain⟨t',r',s',E',q'⟩:=q vs r;unfold oU at q'
 split at q'
 ·exact⟨_,Rep.int_iff.mp r',q' H1 (Same.refl H1) _ (Rep.int_ _)⟩
 ·exact q'.elim
def pC (p:Int->Int->Bool):T->T->Rs T
 | .int i,.int j=> .ok (.bl (p i j))
 | _,_=> .bad
theorem m5 {op:CmpOp}{p:Int->Int->Bool}(h:mG X (compareOp op) (xZ λi j=> .bl (p i j))):OpT X (compareOp op) (pC p):=OpT.of h λH O x y vx vy Q hf rx ry hp=>by
 unfold pC at hp
 split at hp
 ·exact⟨_,_,Rep.int_iff.mp rx,Rep.int_iff.mp ry,hp H (Same.refl H) _ (Rep.bl_ _)⟩
 ·exact hp.elim
abbrev zD:=pC λi j=>decide (i<j)
abbrev zG:=pC λi j=>decide (i<=j)
abbrev Ci:=pC λi j=>decide (j<=i)
theorem qE:OpT X (compareOp .Lt) zD:=m5 Bi
theorem oI:OpT X (compareOp .LtE) zG:=m5 Bj
theorem Bh:OpT X (compareOp .GtE) Ci:=m5 Bk
def T.isN:T->Bool
 | .non=>true
 | _=>false
theorem Rep.isN {K:PySem.W.Frag}{O:Ow}{H:Hp}{t:T}{v:V}(r:Rep K O H t v):decide (v= .non)=t.isN:=by
 cases t with
 | non=>rw[Rep.non_iff.mp r];rfl
 | bl _=>rw[Rep.bl_iff.mp r];rfl
 | int _=>rw[Rep.int_iff.mp r];rfl
 | str _=>rw[Rep.str_iff.mp r];rfl
 | tup _=>obtain⟨a,vs,e,_⟩:=Rep.tup_iff.mp r;rw[e];rfl
 | lst _=>obtain⟨a,vs,e,_⟩:=Rep.lst_iff.mp r;rw[e];rfl
 | scr _=>unfold Rep at r;obtain⟨a,e,_⟩:=r;rw[e];rfl
 | dct _ _=>obtain⟨a,_,e,_⟩:=Rep.dct_iff.mp r;rw[e];rfl
def eV:T->T->Rs T
 | x,.non=> .ok (.bl x.isN)
 | _,_=> .bad
def d6:T->T->Rs T
 | x,.non=> .ok (.bl (!x.isN))
 | _,_=> .bad
theorem jH:OpT X (compareOp .Is) eV:=OpT.of zu λH O x y vx vy Q hf rx ry hp=>by
 unfold eV at hp
 split at hp
 ·exact⟨Rep.non_iff.mp ry,hp H (Same.refl H) _ (by rw[rx.isN];exact Rep.bl_ _)⟩
 ·exact hp.elim
theorem fP:OpT X (compareOp .IsNot) d6:=OpT.of wW λH O x y vx vy Q hf rx ry hp=>by
 unfold d6 at hp
 split at hp
 ·exact⟨Rep.non_iff.mp ry,hp H (Same.refl H) _ (by rw[rx.isN];exact Rep.bl_ _)⟩
 ·exact hp.elim
end
end Tr
namespace Tr
open PySem PySem.Spec PyProof.Rows L2
open PySem.SeqAt
mutual
def ReV (s:Shared):T->Value->Prop
 | .non,u=>u= .none
 | .bl b,u=>u= .bool b
 | .int i,u=> ∃t,u= .int i t
 | .str x,u=> ∃t,u= .str x t
 | .tup l,u=> ∃a its,u= .ref a/\s.heap.IsTuple a (List.toArray its)/\ReVs s l its
 | .lst l,u=> ∃a its,u= .ref a/\s.heap.IsList a (List.toArray its)/\ReVs s l its
 | .scr l,u=> ∃a its,u= .ref a/\s.heap.IsList a (List.toArray its)/\IntsAre its l
 | .dct _ _,_=>False
def ReVs (s:Shared):List T->List Value->Prop
 | [],us=>us= []
 | t::r,us=> ∃u ws,us=u::ws/\ReV s t u/\ReVs s r ws
end
theorem ReVs.nil_iff {s:Shared}{us:List Value}:ReVs s [] us↔us= []:=by unfold ReVs;exact Iff.rfl
theorem ReVs.cons_iff {s:Shared}{t:T}{l:List T}{us:List Value}:ReVs s (t::l) us↔ ∃u ws,us=u::ws/\ReV s t u/\ReVs s l ws:=by
 constructor
 ·intro h;unfold ReVs at h;exact h
 ·intro h;unfold ReVs;exact h
theorem ReVs.length {s:Shared}:∀{l:List T} {us:List Value},ReVs s l us->l.length=us.length
 | [],us,r=>by rw[ReVs.nil_iff.mp r];rfl
 | t::l,us,r=>by
  obtain⟨v,ws,rfl,_,q⟩:=ReVs.cons_iff.mp r;simp[q.length]
theorem ReVs.get {s:Shared}:∀{l:List T} {us:List Value} {i:Nat} {t:T},ReVs s l us->l[i]? =some t->∃v,us[i]? =some v/\ReV s t v
 | [],_,_,_,_,e=>by simp at e
 | t::l,vs,i,u,r,e=>by
  obtain⟨v,ws,rfl,p,q⟩:=ReVs.cons_iff.mp r
  cases i with
  | zero=>simp at e;subst e;exact⟨v,rfl,p⟩
  | succ i=>
   obtain⟨z,e1,e2⟩:=q.get (i:=i) (t:=u) (by simpa using e)
   exact⟨z,by simpa using e1,e2⟩
mutual
def T.nd:T->Bool
 | .dct _ _=>false
 | .tup l=>nds l
 | .lst l=>nds l
 | _=>true
def nds:List T->Bool
 | [] =>true
 | t::l=>t.nd&&nds l
end
theorem oV {t:T}{l:List T}(h:nds (t::l)=true):t.nd=true/\nds l=true:=by unfold nds at h;exact Bool.and_eq_true_iff.mp h
section
variable {X:Cx}{pins:List (Addr×Obj)}{σ:L2.St}{H:Hp}{s:Shared}{O:Ow}
mutual
theorem Rep.val (I:Inv X pins σ H s):∀{t:T} {v:V} {u:Value},t.nd=true->Rep X.K O H t v->RelV v u->ReV s t u
 | .non,v,u,hn,r,q=>by cases Rep.non_iff.mp r;unfold ReV;exact q
 | .bl b,v,u,hn,r,q=>by cases Rep.bl_iff.mp r;unfold ReV;exact q
 | .int b,v,u,hn,r,q=>by cases Rep.int_iff.mp r;unfold ReV;exact q
 | .str b,v,u,hn,r,q=>by cases Rep.str_iff.mp r;unfold ReV;exact q
 | .tup l,v,u,hn,r,q=>by
  obtain⟨a,vs,rfl,_,z,w⟩:=Rep.tup_iff.mp r;cases q;obtain⟨its,rv,p,_⟩:=I.tuple (SqT.of z);unfold ReV
  exact⟨a,its,rfl,p,Reps.val I (by unfold T.nd at hn;exact hn) w rv⟩
 | .lst l,v,u,hn,r,q=>by
  obtain⟨a,vs,rfl,_,z,w⟩:=Rep.lst_iff.mp r;cases q;obtain⟨its,rv,p,_⟩:=I.list (SqL.of z);unfold ReV
  exact⟨a,its,rfl,p.isList,Reps.val I (by unfold T.nd at hn;exact hn) w rv⟩
 | .scr l,v,u,hn,r,q=>by
  unfold Rep at r;obtain⟨a,rfl,_,z⟩:=r;cases q;obtain⟨its,rv,p,_⟩:=I.list z;unfold ReV
  exact⟨a,its,rfl,p.isList,qd rv⟩
 | .dct _ _,v,u,hn,r,q=>by cases hn
theorem Reps.val (I:Inv X pins σ H s):∀{l:List T} {vs:List V} {us:List Value},nds l=true->Reps X.K O H l vs->Vals vs us->ReVs s l us
 | [],vs,us,hn,r,q=>by
  cases Reps.nil_iff.mp r;cases q
  exact ReVs.nil_iff.mpr rfl
 | t::l,vs,us,hn,r,q=>by
  obtain⟨v,ws,rfl,p,z⟩:=Reps.cons_iff.mp r
  cases q with
  | cons q1 q2=>exact ReVs.cons_iff.mpr ⟨_,_,rfl,Rep.val I (oV hn).1 p q1,Reps.val I (oV hn).2 z q2⟩
end
end
mutual
def T.dep:T->Nat
 | .tup l=>deps l+1
 | .lst l=>deps l+1
 | .scr _=>1
 | _=>0
def deps:List T->Nat
 | [] =>0
 | t::l=>max t.dep (deps l)
end
def xH (i:Int):T->Bool
 | .int j=>i == j
 | .bl b=>i == (if b then 1 else 0)
 | _=>false
def im:List Int->List T->Bool
 | [],[] =>true
 | i::r,t::l=>xH i t&&im r l
 | _,_=>false
mutual
def aO:T->T->Bool
 | .non,.non=>true
 | .bl a,.bl b=>a == b
 | .bl a,.int b=>(if a then 1 else 0) == b
 | .int a,.bl b=>a == (if b then 1 else 0)
 | .int a,.int b=>a == b
 | .str a,.str b=>a == b
 | .tup l,.tup m=>beqTs l m
 | .lst l,.lst m=>beqTs l m
 | .lst l,.scr m=>beqTs l (m.map .int)
 | .scr l,.lst m=>im l m
 | .scr l,.scr m=>l == m
 | _,_=>false
def beqTs:List T->List T->Bool
 | [],[] =>true
 | t::l,u::m=>aO t u&&beqTs l m
 | _,_=>false
end
theorem lC (n:Nat)(e:Nat->Bool):(List.range (n+1)).all e=(e 0&&(List.range n).all λj=>e (j+1)):=by
 rw[List.range_succ_eq_map,List.all_cons,List.all_map];rfl
theorem jx:∀(l m:List T) (e:Nat->Bool),(∀(j:Nat) t u,l[j]? =some t->m[j]? =some u->e j=aO t u) →
  beqTs l m=((List.range (min l.length m.length)).all e&&l.length == m.length)
 | [],[],_,_=>by simp[beqTs]
 | [],_::_,_,_=>by simp[beqTs]
 | _::_,[],_,_=>by simp[beqTs]
 | t::l,u::m,e,h=>by
  have ih:=jx l m (λj=>e (j+1)) λj t' u' h1 h2=>h (j+1) t' u' (by simpa using h1) (by simpa using h2)
  rw[beqTs,ih]
  have h0:=h 0 t u rfl rfl;simp only[List.length_cons];rw[Nat.succ_min_succ,lC,h0,Bool.and_assoc]
  congr 2
  simp
theorem mC:∀{l m:List T},l.length≠m.length->beqTs l m=false
 | [],[],h=>absurd rfl h
 | [],_::_,_=>by simp[beqTs]
 | _::_,[],_=>by simp[beqTs]
 | t::l,u::m,h=>by
  rw[beqTs,mC (l:=l) (m:=m) (by intro z;exact h (by simp[z]))]
  simp
theorem gG:∀{l:List T} {i:Nat} {t:T},l[i]? =some t->t.dep<=deps l
 | [],_,_,e=>by simp at e
 | t::l,0,u,e=>by simp at e;subst e;unfold deps;exact Nat.le_max_left _ _
 | t::l,i+1,u,e=>by
  have:=gG (l:=l) (i:=i) (t:=u) (by simpa using e)
  unfold deps;exact Nat.le_trans this (Nat.le_max_right _ _)
theorem gD {s:Shared}{a:Addr}{x y:List Value}(h:s.heap.IsTuple a x.toArray)(h':s.heap.IsTuple a y.toArray):x=y:=by
 obtain⟨o,e,_,n,d⟩:=h;obtain⟨o',e',_,n',d'⟩:=h';rw[e]at e';cases e';rw[d]at d';injection d' with d1 _
 simpa using congrArg Array.toList d1
theorem cC {s:Shared}{a:Addr}{x y:List Value}(h:s.heap.IsList a x.toArray)(h':s.heap.IsList a y.toArray):x=y:=by
 obtain⟨o,e,_,n,d⟩:=h;obtain⟨o',e',_,n',d'⟩:=h';rw[e]at e';cases e';rw[d]at d';injection d' with d1 _
 simpa using congrArg Array.toList d1
theorem sG {s:Shared}{i:Int}{t:T}{k:Tok}(r:ReV s t (.int i k)):xH i t=true:=by
 cases t with
 | non=>unfold ReV at r;cases r
 | bl b=>unfold ReV at r;cases r
 | int j=>unfold ReV at r;obtain⟨t,e⟩:=r;injection e with e1 _;subst e1;simp[xH]
 | str x=>unfold ReV at r;obtain⟨t,e⟩:=r;cases e
 | tup l=>unfold ReV at r;obtain⟨a,its,e,_⟩:=r;cases e
 | lst l=>unfold ReV at r;obtain⟨a,its,e,_⟩:=r;cases e
 | scr l=>unfold ReV at r;obtain⟨a,its,e,_⟩:=r;cases e
 | dct _ _=>unfold ReV at r;exact r.elim
theorem lz {s:Shared}:∀{ns:List Int} {us:List Value} {l:List T},IntsAre us ns->ReVs s l us->im ns l=true
 | [],us,l,h,r=>by
  cases h
  cases l with
  | nil=>rfl
  | cons t l=>obtain⟨_,_,e,_⟩:=ReVs.cons_iff.mp r;cases e
 | n::ns,us,l,h,r=>by
  cases h with
  | cons a b hh=>
   cases l with
   | nil=>have:=ReVs.nil_iff.mp r;cases this
   | cons t l=>
    obtain⟨u,ws,e,p,q⟩:=ReVs.cons_iff.mp r;injection e with e1 e2
    subst e1 e2;rw[im,sG p,lz hh q];rfl
theorem dm {s:Shared}:∀{us:List Value} {ns:List Int},IntsAre us ns->ReVs s (ns.map T.int) us
 | _,_,.nil=>ReVs.nil_iff.mpr rfl
 | _,_,.cons n t h=>ReVs.cons_iff.mpr ⟨_,_,rfl,by unfold ReV;exact⟨_,rfl⟩,dm h⟩
theorem gE:∀{us:List Value} {ns ms:List Int},IntsAre us ns->IntsAre us ms->ns=ms
 | _,_,_,.nil,.nil=>rfl
 | _,_,_,.cons n t h,.cons _ _ h'=>by rw[gE h h']
mutual
theorem ReV.refl {s:Shared}:∀{t u:T} {v:Value},ReV s t v->ReV s u v->aO t u=true
 | .non,u,v,r,q=>by
  unfold ReV at r;subst r
  cases u <;> (unfold ReV at q) <;> first | rfl | (cases q;done) | (obtain⟨_,e⟩:=q;cases e;done) | (obtain⟨_,_,e,_⟩:=q;cases e;done)
 | .bl b,u,v,r,q=>by
  unfold ReV at r;subst r
  cases u <;> (unfold ReV at q) <;> first | (cases q;done) | (cases q;simp[aO];done) | (obtain⟨_,e⟩:=q;cases e;done) | (obtain⟨_,_,e,_⟩:=q;cases e;done)
 | .int b,u,v,r,q=>by
  unfold ReV at r;obtain⟨k,rfl⟩:=r
  cases u <;> (unfold ReV at q) <;> first | (cases q;done) | (obtain⟨_,e⟩:=q;cases e;simp[aO];done) | (obtain⟨_,e⟩:=q;cases e;done) | (obtain⟨_,_,e,_⟩:=q;cases e;done)
 | .str b,u,v,r,q=>by
  unfold ReV at r;obtain⟨k,rfl⟩:=r
  cases u <;> (unfold ReV at q) <;> first | (cases q;done) | (obtain⟨_,e⟩:=q;cases e;simp[aO];done) | (obtain⟨_,e⟩:=q;cases e;done) | (obtain⟨_,_,e,_⟩:=q;cases e;done)
 | .tup l,u,v,r,q=>by
  unfold ReV at r;obtain⟨a,its,rfl,h1,h2⟩:=r
  cases u with
  | non=>unfold ReV at q;cases q
  | dct _ _=>unfold ReV at q;exact q.elim
  | bl _=>unfold ReV at q;cases q
  | int _=>unfold ReV at q;obtain⟨_,e⟩:=q;cases e
  | str _=>unfold ReV at q;obtain⟨_,e⟩:=q;cases e
  | tup m=>
   unfold ReV at q;obtain⟨a',its',e,h1',h2'⟩:=q;injection e with e;subst e
   have:=gD h1 h1';subst this;unfold aO
   exact ReVs.refl h2 h2'
  | lst m=>unfold ReV at q;obtain⟨a',its',e,h1',h2'⟩:=q;injection e with e;subst e;exact absurd rfl (ne_of_list_tuple h1' h1)
  | scr m=>unfold ReV at q;obtain⟨a',its',e,h1',h2'⟩:=q;injection e with e;subst e;exact absurd rfl (ne_of_list_tuple h1' h1)
 | .lst l,u,v,r,q=>by
  unfold ReV at r;obtain⟨a,its,rfl,h1,h2⟩:=r
  cases u with
  | non=>unfold ReV at q;cases q
  | dct _ _=>unfold ReV at q;exact q.elim
  | bl _=>unfold ReV at q;cases q
  | int _=>unfold ReV at q;obtain⟨_,e⟩:=q;cases e
  | str _=>unfold ReV at q;obtain⟨_,e⟩:=q;cases e
  | lst m=>
   unfold ReV at q;obtain⟨a',its',e,h1',h2'⟩:=q;injection e with e;subst e
   have:=cC h1 h1';subst this;unfold aO
   exact ReVs.refl h2 h2'
  | tup m=>unfold ReV at q;obtain⟨a',its',e,h1',h2'⟩:=q;injection e with e;subst e;exact absurd rfl (ne_of_list_tuple h1 h1')
  | scr m=>
   unfold ReV at q;obtain⟨a',its',e,h1',h2'⟩:=q;injection e with e;subst e
   have:=cC h1 h1';subst this;unfold aO
   exact ReVs.refl h2 (dm h2')
 | .scr l,u,v,r,q=>by
  unfold ReV at r;obtain⟨a,its,rfl,h1,h2⟩:=r
  cases u with
  | non=>unfold ReV at q;cases q
  | dct _ _=>unfold ReV at q;exact q.elim
  | bl _=>unfold ReV at q;cases q
  | int _=>unfold ReV at q;obtain⟨_,e⟩:=q;cases e
  | str _=>unfold ReV at q;obtain⟨_,e⟩:=q;cases e
  | lst m=>
   unfold ReV at q;obtain⟨a',its',e,h1',h2'⟩:=q;injection e with e;subst e
   have:=cC h1 h1';subst this;unfold aO
   exact lz h2 h2'
  | tup m=>unfold ReV at q;obtain⟨a',its',e,h1',h2'⟩:=q;injection e with e;subst e;exact absurd rfl (ne_of_list_tuple h1 h1')
  | scr m=>
   unfold ReV at q;obtain⟨a',its',e,h1',h2'⟩:=q;injection e with e;subst e
   have:=cC h1 h1';subst this;unfold aO
   have:=gE h2 h2'
   simp[this]
 | .dct _ _,u,v,r,q=>by unfold ReV at r;exact r.elim
theorem ReVs.refl {s:Shared}:∀{l m:List T} {us:List Value},ReVs s l us->ReVs s m us->beqTs l m=true
 | [],m,us,r,q=>by
  cases ReVs.nil_iff.mp r
  cases m with
  | nil=>simp[beqTs]
  | cons _ _=>obtain⟨_,_,e,_⟩:=ReVs.cons_iff.mp q;cases e
 | t::l,m,us,r,q=>by
  obtain⟨v,ws,rfl,p,z⟩:=ReVs.cons_iff.mp r
  cases m with
  | nil=>cases ReVs.nil_iff.mp q
  | cons u m=>
   obtain⟨v',ws',e,p',z'⟩:=ReVs.cons_iff.mp q;injection e with e1 e2
   subst e1 e2;rw[beqTs,ReV.refl p p',ReVs.refl z z'];rfl
end
theorem ly:∀(l:List Int) (m:List T),im l m=beqTs (l.map T.int) m
 | [],[] =>by simp[im,beqTs]
 | [],_::_=>by simp[im,beqTs]
 | _::_,[] =>by simp[im,beqTs]
 | i::l,t::m=>by
  rw[im,List.map_cons,beqTs,ly l m]
  congr 1
  cases t <;> simp[xH,aO]
theorem mM:∀(l m:List Int),(l == m)=beqTs (l.map T.int) (m.map T.int)
 | [],[] =>by simp[beqTs]
 | [],_::_=>by simp[beqTs]
 | _::_,[] =>by simp[beqTs]
 | i::l,t::m=>by
  rw[List.map_cons,List.map_cons,beqTs,<-mM l m];simp[aO]
theorem eZ:∀(l:List Int),deps (l.map T.int)=0
 | [] =>rfl
 | i::l=>by rw[List.map_cons,deps,eZ l];simp[T.dep]
def gX:T->T->Prop
 | .tup _,.tup _=>False
 | .lst _,.lst _=>False
 | .lst _,.scr _=>False
 | .scr _,.lst _=>False
 | .scr _,.scr _=>False
 | _,_=>True
theorem pd (A:Around)(s:Shared)(x y:T)(u v:Value)(hn:gX x y)(hu:A.units<cLine)(rx:ReV s x u)(ry:ReV s y v):EqAt A s u v (aO x y)/\RcAt A s u v (aO x y)/\RcNeAt A s u v (!aO x y):=by
 match x,y,hn,rx,ry with
 | .dct _ _,_,_,rx,_=>exact(by unfold ReV at rx;exact rx:False).elim
 | _,.dct _ _,_,_,ry=>exact(by unfold ReV at ry;exact ry:False).elim
 | .non,.non,hn,rx,ry=>
  obtain rfl:u=Value.none:=by unfold ReV at rx;exact rx
  obtain rfl:v=Value.none:=by unfold ReV at ry;exact ry
  exact⟨EqAt.same _,RcAt.none_none ,RcNeAt.none_none ⟩
 | .non,.bl b2,hn,rx,ry=>
  obtain rfl:u=Value.none:=by unfold ReV at rx;exact rx
  obtain rfl:v=Value.bool b2:=by unfold ReV at ry;exact ry
  exact⟨EqAt.none_bool b2,RcAt.none_bool b2,RcNeAt.none_bool b2⟩
 | .non,.int i2,hn,rx,ry=>
  obtain rfl:u=Value.none:=by unfold ReV at rx;exact rx
  obtain⟨k2,rfl⟩:∃k,v=Value.int i2 k:=by unfold ReV at ry;exact ry
  exact⟨EqAt.none_int i2 k2,RcAt.none_int i2 k2,RcNeAt.none_int i2 k2⟩
 | .non,.str x2,hn,rx,ry=>
  obtain rfl:u=Value.none:=by unfold ReV at rx;exact rx
  obtain⟨k2,rfl⟩:∃k,v=Value.str x2 k:=by unfold ReV at ry;exact ry
  exact⟨EqAt.none_str x2 k2,RcAt.none_str x2 k2,RcNeAt.none_str x2 k2⟩
 | .non,.tup l2,hn,rx,ry=>
  obtain rfl:u=Value.none:=by unfold ReV at rx;exact rx
  unfold ReV at ry;obtain⟨a2,us2,rfl,h2,q2⟩:=ry
  exact⟨EqAt.none_tuple h2 hu,RcAt.none_tuple h2 hu,RcNeAt.none_tuple h2 hu⟩
 | .non,.lst l2,hn,rx,ry=>
  obtain rfl:u=Value.none:=by unfold ReV at rx;exact rx
  unfold ReV at ry;obtain⟨a2,us2,rfl,h2,q2⟩:=ry
  exact⟨EqAt.none_list h2 hu,RcAt.none_list h2 hu,RcNeAt.none_list h2 hu⟩
 | .non,.scr l2,hn,rx,ry=>
  obtain rfl:u=Value.none:=by unfold ReV at rx;exact rx
  unfold ReV at ry;obtain⟨a2,us2,rfl,h2,q2⟩:=ry
  exact⟨EqAt.none_list h2 hu,RcAt.none_list h2 hu,RcNeAt.none_list h2 hu⟩
 | .bl b1,.non,hn,rx,ry=>
  obtain rfl:u=Value.bool b1:=by unfold ReV at rx;exact rx
  obtain rfl:v=Value.none:=by unfold ReV at ry;exact ry
  exact⟨EqAt.bool_none b1,RcAt.bool_none b1,RcNeAt.bool_none b1⟩
 | .bl b1,.bl b2,hn,rx,ry=>
  obtain rfl:u=Value.bool b1:=by unfold ReV at rx;exact rx
  obtain rfl:v=Value.bool b2:=by unfold ReV at ry;exact ry
  exact⟨EqAt.bool_bool b1 b2,RcAt.bool_bool b1 b2,RcNeAt.bool_bool b1 b2⟩
 | .bl b1,.int i2,hn,rx,ry=>
  obtain rfl:u=Value.bool b1:=by unfold ReV at rx;exact rx
  obtain⟨k2,rfl⟩:∃k,v=Value.int i2 k:=by unfold ReV at ry;exact ry
  exact⟨EqAt.bool_int b1 i2 k2,RcAt.bool_int b1 i2 k2,RcNeAt.bool_int b1 i2 k2⟩
 | .bl b1,.str x2,hn,rx,ry=>
  obtain rfl:u=Value.bool b1:=by unfold ReV at rx;exact rx
  obtain⟨k2,rfl⟩:∃k,v=Value.str x2 k:=by unfold ReV at ry;exact ry
  exact⟨EqAt.bool_str b1 x2 k2,RcAt.bool_str b1 x2 k2,RcNeAt.bool_str b1 x2 k2⟩
 | .bl b1,.tup l2,hn,rx,ry=>
  obtain rfl:u=Value.bool b1:=by unfold ReV at rx;exact rx
  unfold ReV at ry;obtain⟨a2,us2,rfl,h2,q2⟩:=ry
  exact⟨EqAt.bool_tuple b1 h2 hu,RcAt.bool_tuple b1 h2 hu,RcNeAt.bool_tuple b1 h2 hu⟩
 | .bl b1,.lst l2,hn,rx,ry=>
  obtain rfl:u=Value.bool b1:=by unfold ReV at rx;exact rx
  unfold ReV at ry;obtain⟨a2,us2,rfl,h2,q2⟩:=ry
  exact⟨EqAt.bool_list b1 h2 hu,RcAt.bool_list b1 h2 hu,RcNeAt.bool_list b1 h2 hu⟩
 | .bl b1,.scr l2,hn,rx,ry=>
  obtain rfl:u=Value.bool b1:=by unfold ReV at rx;exact rx
  unfold ReV at ry;obtain⟨a2,us2,rfl,h2,q2⟩:=ry
  exact⟨EqAt.bool_list b1 h2 hu,RcAt.bool_list b1 h2 hu,RcNeAt.bool_list b1 h2 hu⟩
 | .int i1,.non,hn,rx,ry=>
  obtain⟨k1,rfl⟩:∃k,u=Value.int i1 k:=by unfold ReV at rx;exact rx
  obtain rfl:v=Value.none:=by unfold ReV at ry;exact ry
  exact⟨EqAt.int_none i1 k1,RcAt.int_none i1 k1,RcNeAt.int_none i1 k1⟩
 | .int i1,.bl b2,hn,rx,ry=>
  obtain⟨k1,rfl⟩:∃k,u=Value.int i1 k:=by unfold ReV at rx;exact rx
  obtain rfl:v=Value.bool b2:=by unfold ReV at ry;exact ry
  exact⟨EqAt.int_bool i1 k1 b2,RcAt.int_bool i1 k1 b2,RcNeAt.int_bool i1 k1 b2⟩
 | .int i1,.int i2,hn,rx,ry=>
  obtain⟨k1,rfl⟩:∃k,u=Value.int i1 k:=by unfold ReV at rx;exact rx
  obtain⟨k2,rfl⟩:∃k,v=Value.int i2 k:=by unfold ReV at ry;exact ry
  exact⟨EqAt.int_int i1 k1 i2 k2,RcAt.int_int i1 k1 i2 k2,RcNeAt.int_int i1 k1 i2 k2⟩
 | .int i1,.str x2,hn,rx,ry=>
  obtain⟨k1,rfl⟩:∃k,u=Value.int i1 k:=by unfold ReV at rx;exact rx
  obtain⟨k2,rfl⟩:∃k,v=Value.str x2 k:=by unfold ReV at ry;exact ry
  exact⟨EqAt.int_str i1 k1 x2 k2,RcAt.int_str i1 k1 x2 k2,RcNeAt.int_str i1 k1 x2 k2⟩
 | .int i1,.tup l2,hn,rx,ry=>
  obtain⟨k1,rfl⟩:∃k,u=Value.int i1 k:=by unfold ReV at rx;exact rx
  unfold ReV at ry;obtain⟨a2,us2,rfl,h2,q2⟩:=ry
  exact⟨EqAt.int_tuple i1 k1 h2 hu,RcAt.int_tuple i1 k1 h2 hu,RcNeAt.int_tuple i1 k1 h2 hu⟩
 | .int i1,.lst l2,hn,rx,ry=>
  obtain⟨k1,rfl⟩:∃k,u=Value.int i1 k:=by unfold ReV at rx;exact rx
  unfold ReV at ry;obtain⟨a2,us2,rfl,h2,q2⟩:=ry
  exact⟨EqAt.int_list i1 k1 h2 hu,RcAt.int_list i1 k1 h2 hu,RcNeAt.int_list i1 k1 h2 hu⟩
 | .int i1,.scr l2,hn,rx,ry=>
  obtain⟨k1,rfl⟩:∃k,u=Value.int i1 k:=by unfold ReV at rx;exact rx
  unfold ReV at ry;obtain⟨a2,us2,rfl,h2,q2⟩:=ry
  exact⟨EqAt.int_list i1 k1 h2 hu,RcAt.int_list i1 k1 h2 hu,RcNeAt.int_list i1 k1 h2 hu⟩
 | .str x1,.non,hn,rx,ry=>
  obtain⟨k1,rfl⟩:∃k,u=Value.str x1 k:=by unfold ReV at rx;exact rx
  obtain rfl:v=Value.none:=by unfold ReV at ry;exact ry
  exact⟨EqAt.str_none x1 k1,RcAt.str_none x1 k1,RcNeAt.str_none x1 k1⟩
 | .str x1,.bl b2,hn,rx,ry=>
  obtain⟨k1,rfl⟩:∃k,u=Value.str x1 k:=by unfold ReV at rx;exact rx
  obtain rfl:v=Value.bool b2:=by unfold ReV at ry;exact ry
  exact⟨EqAt.str_bool x1 k1 b2,RcAt.str_bool x1 k1 b2,RcNeAt.str_bool x1 k1 b2⟩
 | .str x1,.int i2,hn,rx,ry=>
  obtain⟨k1,rfl⟩:∃k,u=Value.str x1 k:=by unfold ReV at rx;exact rx
  obtain⟨k2,rfl⟩:∃k,v=Value.int i2 k:=by unfold ReV at ry;exact ry
  exact⟨EqAt.str_int x1 k1 i2 k2,RcAt.str_int x1 k1 i2 k2,RcNeAt.str_int x1 k1 i2 k2⟩
 | .str x1,.str x2,hn,rx,ry=>
  obtain⟨k1,rfl⟩:∃k,u=Value.str x1 k:=by unfold ReV at rx;exact rx
  obtain⟨k2,rfl⟩:∃k,v=Value.str x2 k:=by unfold ReV at ry;exact ry
  exact⟨EqAt.str_str x1 k1 x2 k2,RcAt.str_str x1 k1 x2 k2,RcNeAt.str_str x1 k1 x2 k2⟩
 | .str x1,.tup l2,hn,rx,ry=>
  obtain⟨k1,rfl⟩:∃k,u=Value.str x1 k:=by unfold ReV at rx;exact rx
  unfold ReV at ry;obtain⟨a2,us2,rfl,h2,q2⟩:=ry
  exact⟨EqAt.str_tuple x1 k1 h2 hu,RcAt.str_tuple x1 k1 h2 hu,RcNeAt.str_tuple x1 k1 h2 hu⟩
 | .str x1,.lst l2,hn,rx,ry=>
  obtain⟨k1,rfl⟩:∃k,u=Value.str x1 k:=by unfold ReV at rx;exact rx
  unfold ReV at ry;obtain⟨a2,us2,rfl,h2,q2⟩:=ry
  exact⟨EqAt.str_list x1 k1 h2 hu,RcAt.str_list x1 k1 h2 hu,RcNeAt.str_list x1 k1 h2 hu⟩
 | .str x1,.scr l2,hn,rx,ry=>
  obtain⟨k1,rfl⟩:∃k,u=Value.str x1 k:=by unfold ReV at rx;exact rx
  unfold ReV at ry;obtain⟨a2,us2,rfl,h2,q2⟩:=ry
  exact⟨EqAt.str_list x1 k1 h2 hu,RcAt.str_list x1 k1 h2 hu,RcNeAt.str_list x1 k1 h2 hu⟩
 | .tup l1,.non,hn,rx,ry=>
  unfold ReV at rx;obtain⟨a1,us1,rfl,h1,q1⟩:=rx;obtain rfl:v=Value.none:=by unfold ReV at ry;exact ry
  exact⟨EqAt.tuple_none h1 hu,RcAt.tuple_none h1 hu,RcNeAt.tuple_none h1 hu⟩
 | .tup l1,.bl b2,hn,rx,ry=>
  unfold ReV at rx;obtain⟨a1,us1,rfl,h1,q1⟩:=rx;obtain rfl:v=Value.bool b2:=by unfold ReV at ry;exact ry
  exact⟨EqAt.tuple_bool b2 h1 hu,RcAt.tuple_bool b2 h1 hu,RcNeAt.tuple_bool b2 h1 hu⟩
 | .tup l1,.int i2,hn,rx,ry=>
  unfold ReV at rx;obtain⟨a1,us1,rfl,h1,q1⟩:=rx;obtain⟨k2,rfl⟩:∃k,v=Value.int i2 k:=by unfold ReV at ry;exact ry
  exact⟨EqAt.tuple_int i2 k2 h1 hu,RcAt.tuple_int i2 k2 h1 hu,RcNeAt.tuple_int i2 k2 h1 hu⟩
 | .tup l1,.str x2,hn,rx,ry=>
  unfold ReV at rx;obtain⟨a1,us1,rfl,h1,q1⟩:=rx;obtain⟨k2,rfl⟩:∃k,v=Value.str x2 k:=by unfold ReV at ry;exact ry
  exact⟨EqAt.tuple_str x2 k2 h1 hu,RcAt.tuple_str x2 k2 h1 hu,RcNeAt.tuple_str x2 k2 h1 hu⟩
 | .tup _,.tup _,hn,_,_=>exact hn.elim
 | .tup l1,.lst l2,hn,rx,ry=>
  unfold ReV at rx;obtain⟨a1,us1,rfl,h1,q1⟩:=rx;unfold ReV at ry;obtain⟨a2,us2,rfl,h2,q2⟩:=ry
  exact⟨EqAt.tuple_list h1 h2 hu,RcAt.tuple_list h1 h2 hu,RcNeAt.tuple_list h1 h2 hu⟩
 | .tup l1,.scr l2,hn,rx,ry=>
  unfold ReV at rx;obtain⟨a1,us1,rfl,h1,q1⟩:=rx;unfold ReV at ry;obtain⟨a2,us2,rfl,h2,q2⟩:=ry
  exact⟨EqAt.tuple_list h1 h2 hu,RcAt.tuple_list h1 h2 hu,RcNeAt.tuple_list h1 h2 hu⟩
 | .lst l1,.non,hn,rx,ry=>
  unfold ReV at rx;obtain⟨a1,us1,rfl,h1,q1⟩:=rx;obtain rfl:v=Value.none:=by unfold ReV at ry;exact ry
  exact⟨EqAt.list_none h1 hu,RcAt.list_none h1 hu,RcNeAt.list_none h1 hu⟩
 | .lst l1,.bl b2,hn,rx,ry=>
  unfold ReV at rx;obtain⟨a1,us1,rfl,h1,q1⟩:=rx;obtain rfl:v=Value.bool b2:=by unfold ReV at ry;exact ry
  exact⟨EqAt.list_bool b2 h1 hu,RcAt.list_bool b2 h1 hu,RcNeAt.list_bool b2 h1 hu⟩
 | .lst l1,.int i2,hn,rx,ry=>
  unfold ReV at rx;obtain⟨a1,us1,rfl,h1,q1⟩:=rx;obtain⟨k2,rfl⟩:∃k,v=Value.int i2 k:=by unfold ReV at ry;exact ry
  exact⟨EqAt.list_int i2 k2 h1 hu,RcAt.list_int i2 k2 h1 hu,RcNeAt.list_int i2 k2 h1 hu⟩
 | .lst l1,.str x2,hn,rx,ry=>
  unfold ReV at rx;obtain⟨a1,us1,rfl,h1,q1⟩:=rx;obtain⟨k2,rfl⟩:∃k,v=Value.str x2 k:=by unfold ReV at ry;exact ry
  exact⟨EqAt.list_str x2 k2 h1 hu,RcAt.list_str x2 k2 h1 hu,RcNeAt.list_str x2 k2 h1 hu⟩
 | .lst l1,.tup l2,hn,rx,ry=>
  unfold ReV at rx;obtain⟨a1,us1,rfl,h1,q1⟩:=rx;unfold ReV at ry;obtain⟨a2,us2,rfl,h2,q2⟩:=ry
  exact⟨EqAt.list_tuple h1 h2 hu,RcAt.list_tuple h1 h2 hu,RcNeAt.list_tuple h1 h2 hu⟩
 | .lst _,.lst _,hn,_,_=>exact hn.elim
 | .lst _,.scr _,hn,_,_=>exact hn.elim
 | .scr l1,.non,hn,rx,ry=>
  unfold ReV at rx;obtain⟨a1,us1,rfl,h1,q1⟩:=rx;obtain rfl:v=Value.none:=by unfold ReV at ry;exact ry
  exact⟨EqAt.list_none h1 hu,RcAt.list_none h1 hu,RcNeAt.list_none h1 hu⟩
 | .scr l1,.bl b2,hn,rx,ry=>
  unfold ReV at rx;obtain⟨a1,us1,rfl,h1,q1⟩:=rx;obtain rfl:v=Value.bool b2:=by unfold ReV at ry;exact ry
  exact⟨EqAt.list_bool b2 h1 hu,RcAt.list_bool b2 h1 hu,RcNeAt.list_bool b2 h1 hu⟩
 | .scr l1,.int i2,hn,rx,ry=>
  unfold ReV at rx;obtain⟨a1,us1,rfl,h1,q1⟩:=rx;obtain⟨k2,rfl⟩:∃k,v=Value.int i2 k:=by unfold ReV at ry;exact ry
  exact⟨EqAt.list_int i2 k2 h1 hu,RcAt.list_int i2 k2 h1 hu,RcNeAt.list_int i2 k2 h1 hu⟩
 | .scr l1,.str x2,hn,rx,ry=>
  unfold ReV at rx;obtain⟨a1,us1,rfl,h1,q1⟩:=rx;obtain⟨k2,rfl⟩:∃k,v=Value.str x2 k:=by unfold ReV at ry;exact ry
  exact⟨EqAt.list_str x2 k2 h1 hu,RcAt.list_str x2 k2 h1 hu,RcNeAt.list_str x2 k2 h1 hu⟩
 | .scr l1,.tup l2,hn,rx,ry=>
  unfold ReV at rx;obtain⟨a1,us1,rfl,h1,q1⟩:=rx;unfold ReV at ry;obtain⟨a2,us2,rfl,h2,q2⟩:=ry
  exact⟨EqAt.list_tuple h1 h2 hu,RcAt.list_tuple h1 h2 hu,RcNeAt.list_tuple h1 h2 hu⟩
 | .scr _,.lst _,hn,_,_=>exact hn.elim
 | .scr _,.scr _,hn,_,_=>exact hn.elim
theorem xr:∀(n:Nat) (A:Around) (s:Shared) (x y:T) (u v:Value),(x.dep<=n\/y.dep<=n)->A.units+n<cLine->ReV s x u->ReV s y v->EqAt A s u v (aO x y)/\RcAt A s u v (aO x y)/\RcNeAt A s u v (!aO x y):=by
 intro n
 induction n with
 | zero=>
  intro A s x y u v hd hu rx ry
  exact pd A s x y u v (by cases x <;> cases y <;> simp_all [gX,T.dep]) (by omega) rx ry
 | succ n ih=>
  intro A s x y u v hd hu rx ry
  have hin:A.in1.units+n<cLine:=by show A.units+1+n<cLine;omega
  have items:∀(l m:List T) (us vs:List Value),(deps l<=n\/deps m<=n)->ReVs s l us->ReVs s m vs->∃e:Nat->Bool,(∀j (h1:j<us.toArray.size) (h2:j<vs.toArray.size),EqAt A.in1 s us.toArray[j] vs.toArray[j] (e j)) ∧
    (∀(j:Nat) t u,l[j]? =some t->m[j]? =some u->e j=aO t u):=λl m us vs hd r1 r2=>by
   refine⟨λj=>aO (l.getD j .non) (m.getD j .non),λj h1 h2=> ?_,λj t u e1 e2=>by simp[List.getD,e1,e2]⟩
   have l1:=r1.length
   have l2:=r2.length
   have h1':j<l.length:=by rw[l1];simpa using h1
   have h2':j<m.length:=by rw[l2];simpa using h2
   have e1:l[j]? =some l[j]:=by simp
   have e2:m[j]? =some m[j]:=by simp
   obtain⟨u1,z1,w1⟩:=r1.get e1;obtain⟨u2,z2,w2⟩:=r2.get e2
   have q1:us.toArray[j] =u1:=by
    have:us[j]? =some us.toArray[j]:=by simp
    rw[z1]at this;exact(Option.some.inj this).symm
   have q2:vs.toArray[j] =u2:=by
    have:vs[j]? =some vs.toArray[j]:=by simp
    rw[z2]at this;exact(Option.some.inj this).symm
   rw[q1,q2]
   have g1:l.getD j .non=l[j]:=by simp[List.getD,e1]
   have g2:m.getD j .non=m[j]:=by simp[List.getD,e2]
   show EqAt A.in1 s u1 u2 (aO (l.getD j .non) (m.getD j .non))
   rw[g1,g2];refine(ih A.in1 s l[j] m[j] u1 u2 ?_ hin w1 w2).1
   rcases hd with hd | hd
   ·exact .inl (Nat.le_trans (gG e1) hd)
   ·exact .inr (Nat.le_trans (gG e2) hd)
  have lists:∀(l m:List T) (a b:Addr) (us vs:List Value),(deps l<=n\/deps m<=n)->ReVs s l us->ReVs s m vs->s.heap.IsList a us.toArray->s.heap.IsList b vs.toArray →
    EqAt A s (.ref a) (.ref b) (beqTs l m)/\RcAt A s (.ref a) (.ref b) (beqTs l m)/\RcNeAt A s (.ref a) (.ref b) (!beqTs l m):=λl m a b us vs hd r1 r2 h1 h2=>by
   have l1:=r1.length
   have l2:=r2.length
   have key:RcAt A s (.ref a) (.ref b) (beqTs l m)/\RcNeAt A s (.ref a) (.ref b) (!beqTs l m):=by
    by_cases hl:l.length=m.length
    ·obtain⟨e,he,hb⟩:=items l m us vs hd r1 r2
     have q:=jx l m e hb
     have q2:beqTs l m=(List.range us.toArray.size).all e:=by
      rw[q,hl,Nat.min_self];simp[l2.symm,hl.symm,l1]
     rw[q2]
     have hsz:us.toArray.size=vs.toArray.size:=by simp;omega
     exact⟨RcAt.lists h1 h2 hsz (by omega) he,RcNeAt.lists h1 h2 hsz (by omega) he⟩
    ·rw[mC hl]
     have hsz:(us.toArray.size != vs.toArray.size)=true:=by simp;omega
     exact⟨RcAt.lists_lengths h1 h2 hsz (by omega),RcNeAt.lists_lengths h1 h2 hsz (by omega)⟩
   refine⟨?_,key⟩
   by_cases hab:a=b
   ·subst hab
    have:=cC h1 h2;subst this;rw[ReVs.refl r1 r2];exact EqAt.same _
   ·exact EqAt.of_refs hab key.1
  cases x with
  | tup l=>
   cases y with
   | tup m=>
    unfold ReV at rx ry;obtain⟨a,us,rfl,h1,r1⟩:=rx;obtain⟨b,vs,rfl,h2,r2⟩:=ry
    have hd':deps l<=n\/deps m<=n:=by
     simp only[T.dep]at hd;omega
    have l1:=r1.length
    have l2:=r2.length;obtain⟨e,he,hb⟩:=items l m us vs hd' r1 r2
    have q:=jx l m e hb
    have q2:beqTs l m=((List.range (min us.toArray.size vs.toArray.size)).all e&&us.toArray.size == vs.toArray.size):=by
     rw[q];simp[l1,l2]
    have key:RcAt A s (.ref a) (.ref b) (beqTs l m)/\RcNeAt A s (.ref a) (.ref b) (!beqTs l m):=by
     rw[q2];exact⟨RcAt.tuples h1 h2 (by omega) he,RcNeAt.tuples h1 h2 (by omega) he⟩
    unfold aO;refine⟨?_,key⟩
    by_cases hab:a=b
    ·subst hab
     have:=gD h1 h2;subst this;rw[ReVs.refl r1 r2];exact EqAt.same _
    ·exact EqAt.of_refs hab key.1
   | _=>exact pd A s _ _ u v (by simp[gX]) (by omega) rx ry
  | lst l=>
   cases y with
   | lst m=>
    unfold ReV at rx ry;obtain⟨a,us,rfl,h1,r1⟩:=rx;obtain⟨b,vs,rfl,h2,r2⟩:=ry;unfold aO
    exact lists l m a b us vs (by simp only[T.dep]at hd;omega) r1 r2 h1 h2
   | scr m=>
    unfold ReV at rx ry;obtain⟨a,us,rfl,h1,r1⟩:=rx;obtain⟨b,vs,rfl,h2,r2⟩:=ry;unfold aO
    exact lists l (m.map T.int) a b us vs (by rw[eZ];omega) r1 (dm r2) h1 h2
   | _=>exact pd A s _ _ u v (by simp[gX]) (by omega) rx ry
  | scr l=>
   cases y with
   | lst m=>
    unfold ReV at rx ry;obtain⟨a,us,rfl,h1,r1⟩:=rx;obtain⟨b,vs,rfl,h2,r2⟩:=ry;unfold aO;rw[ly]
    exact lists (l.map T.int) m a b us vs (by rw[eZ];omega) (dm r1) r2 h1 h2
   | scr m=>
    unfold ReV at rx ry;obtain⟨a,us,rfl,h1,r1⟩:=rx;obtain⟨b,vs,rfl,h2,r2⟩:=ry;unfold aO;rw[mM]
    exact lists (l.map T.int) (m.map T.int) a b us vs (by rw[eZ];omega) (dm r1) (dm r2) h1 h2
   | _=>exact pd A s _ _ u v (by simp[gX]) (by omega) rx ry
  | _=>exact pd A s _ _ u v (by simp[gX]) (by omega) rx ry
mutual
def T.nf:T->T
 | .tup l=> .tup (nfs l)
 | .lst l=> .lst (nfs l)
 | .scr l=> .lst (l.map .int)
 | .non=> .non
 | .bl b=> .bl b
 | .int b=> .int b
 | .str b=> .str b
 | .dct a b=> .dct a b
def nfs:List T->List T
 | [] => []
 | t::l=>t.nf::nfs l
end
theorem oS:∀(l:List Int),nfs (l.map T.int)=l.map T.int
 | [] =>rfl
 | i::l=>by rw[List.map_cons,nfs,oS l];simp[T.nf]
mutual
theorem jc:∀(t x:T),aO t.nf x=aO t x
 | .non,x=>by simp[T.nf]
 | .bl _,x=>by simp[T.nf]
 | .int _,x=>by simp[T.nf]
 | .str _,x=>by simp[T.nf]
 | .tup l,x=>by cases x <;> simp[T.nf,aO,beqTs_nf l]
 | .lst l,x=>by cases x <;> simp[T.nf,aO,beqTs_nf l]
 | .scr l,x=>by cases x <;> simp[T.nf,aO,ly,mM]
 | .dct _ _,x=>by simp[T.nf]
theorem beqTs_nf:∀(l m:List T),beqTs (nfs l) m=beqTs l m
 | [],m=>by simp[nfs]
 | t::l,m=>by cases m <;> simp[nfs,beqTs,jc t,beqTs_nf l]
end
theorem zV {s:Shared}{t:T}{i:Int}{k:Tok}(r:ReV s t (.int i k)):t.nf= .int i:=by
 cases t with
 | non=>unfold ReV at r;cases r
 | bl b=>unfold ReV at r;cases r
 | int j=>unfold ReV at r;obtain⟨t,e⟩:=r;injection e with e1 _;subst e1;rfl
 | str x=>unfold ReV at r;obtain⟨t,e⟩:=r;cases e
 | tup l=>unfold ReV at r;obtain⟨a,its,e,_⟩:=r;cases e
 | lst l=>unfold ReV at r;obtain⟨a,its,e,_⟩:=r;cases e
 | scr l=>unfold ReV at r;obtain⟨a,its,e,_⟩:=r;cases e
 | dct _ _=>unfold ReV at r;exact r.elim
theorem qW {s:Shared}:∀{l:List T} {us:List Value} {ns:List Int},ReVs s l us->IntsAre us ns->nfs l=ns.map T.int
 | [],us,ns,r,h=>by cases ReVs.nil_iff.mp r;cases h;rfl
 | t::l,us,ns,r,h=>by
  obtain⟨u,ws,rfl,p,q⟩:=ReVs.cons_iff.mp r
  cases h with
  | cons a b hh=>rw[nfs,zV p,qW q hh];rfl
mutual
theorem ReV.nf {s:Shared}:∀{t u:T} {v:Value},ReV s t v->ReV s u v->t.nf=u.nf
 | .non,u,v,r,q=>by
  unfold ReV at r;subst r
  cases u <;> (unfold ReV at q) <;> first | rfl | (cases q;done) | (obtain⟨_,e⟩:=q;cases e;done) | (obtain⟨_,_,e,_⟩:=q;cases e;done)
 | .bl b,u,v,r,q=>by
  unfold ReV at r;subst r
  cases u <;> (unfold ReV at q) <;> first | (cases q;done) | (cases q;rfl) | (obtain⟨_,e⟩:=q;cases e;done) | (obtain⟨_,_,e,_⟩:=q;cases e;done)
 | .int b,u,v,r,q=>by
  unfold ReV at r;obtain⟨k,rfl⟩:=r
  cases u <;> (unfold ReV at q) <;> first | (cases q;done) | (obtain⟨_,e⟩:=q;cases e;done) | (obtain⟨_,e⟩:=q;cases e;rfl) | (obtain⟨_,_,e,_⟩:=q;cases e;done)
 | .str b,u,v,r,q=>by
  unfold ReV at r;obtain⟨k,rfl⟩:=r
  cases u <;> (unfold ReV at q) <;> first | (cases q;done) | (obtain⟨_,e⟩:=q;cases e;done) | (obtain⟨_,e⟩:=q;cases e;rfl) | (obtain⟨_,_,e,_⟩:=q;cases e;done)
 | .tup l,u,v,r,q=>by
  unfold ReV at r;obtain⟨a,its,rfl,h1,h2⟩:=r
  cases u with
  | non=>unfold ReV at q;cases q
  | dct _ _=>unfold ReV at q;exact q.elim
  | bl _=>unfold ReV at q;cases q
  | int _=>unfold ReV at q;obtain⟨_,e⟩:=q;cases e
  | str _=>unfold ReV at q;obtain⟨_,e⟩:=q;cases e
  | tup m=>
   unfold ReV at q;obtain⟨a',its',e,h1',h2'⟩:=q;injection e with e;subst e
   have:=gD h1 h1';subst this;unfold T.nf
   rw[ReVs.nf h2 h2']
  | lst m=>unfold ReV at q;obtain⟨a',its',e,h1',h2'⟩:=q;injection e with e;subst e;exact absurd rfl (ne_of_list_tuple h1' h1)
  | scr m=>unfold ReV at q;obtain⟨a',its',e,h1',h2'⟩:=q;injection e with e;subst e;exact absurd rfl (ne_of_list_tuple h1' h1)
 | .lst l,u,v,r,q=>by
  unfold ReV at r;obtain⟨a,its,rfl,h1,h2⟩:=r
  cases u with
  | non=>unfold ReV at q;cases q
  | dct _ _=>unfold ReV at q;exact q.elim
  | bl _=>unfold ReV at q;cases q
  | int _=>unfold ReV at q;obtain⟨_,e⟩:=q;cases e
  | str _=>unfold ReV at q;obtain⟨_,e⟩:=q;cases e
  | lst m=>
   unfold ReV at q;obtain⟨a',its',e,h1',h2'⟩:=q;injection e with e;subst e
   have:=cC h1 h1';subst this;unfold T.nf
   rw[ReVs.nf h2 h2']
  | tup m=>unfold ReV at q;obtain⟨a',its',e,h1',h2'⟩:=q;injection e with e;subst e;exact absurd rfl (ne_of_list_tuple h1 h1')
  | scr m=>
   unfold ReV at q;obtain⟨a',its',e,h1',h2'⟩:=q;injection e with e;subst e
   have:=cC h1 h1';subst this;unfold T.nf
   rw[ReVs.nf h2 (dm h2'),oS]
 | .scr l,u,v,r,q=>by
  unfold ReV at r;obtain⟨a,its,rfl,h1,h2⟩:=r
  cases u with
  | non=>unfold ReV at q;cases q
  | dct _ _=>unfold ReV at q;exact q.elim
  | bl _=>unfold ReV at q;cases q
  | int _=>unfold ReV at q;obtain⟨_,e⟩:=q;cases e
  | str _=>unfold ReV at q;obtain⟨_,e⟩:=q;cases e
  | lst m=>
   unfold ReV at q;obtain⟨a',its',e,h1',h2'⟩:=q;injection e with e;subst e
   have:=cC h1 h1';subst this
   have z:=qW h2' h2;unfold T.nf
   rw[z]
  | tup m=>unfold ReV at q;obtain⟨a',its',e,h1',h2'⟩:=q;injection e with e;subst e;exact absurd rfl (ne_of_list_tuple h1 h1')
  | scr m=>
   unfold ReV at q;obtain⟨a',its',e,h1',h2'⟩:=q;injection e with e;subst e
   have:=cC h1 h1';subst this
   rw[gE h2 h2']
 | .dct _ _,u,v,r,q=>by unfold ReV at r;exact r.elim
theorem ReVs.nf {s:Shared}:∀{l m:List T} {us:List Value},ReVs s l us->ReVs s m us->nfs l=nfs m
 | [],m,us,r,q=>by
  cases ReVs.nil_iff.mp r
  cases m with
  | nil=>rfl
  | cons _ _=>obtain⟨_,_,e,_⟩:=ReVs.cons_iff.mp q;cases e
 | t::l,m,us,r,q=>by
  obtain⟨v,ws,rfl,p,z⟩:=ReVs.cons_iff.mp r
  cases m with
  | nil=>cases ReVs.nil_iff.mp q
  | cons u m=>
   obtain⟨v',ws',e,p',z'⟩:=ReVs.cons_iff.mp q;injection e with e1 e2
   subst e1 e2;rw[nfs,nfs,ReV.nf p p',ReVs.nf z z']
end
section
variable {X:Cx}{a b c:Expr}{fa fb fc:En->Rs T}{pos:Pos}
def ft (x y:T):Bool:=(decide (x.dep<=60)||decide (y.dep<=60))&&(x.nd&&y.nd)
def jM (x y:T):Rs T:=if ft x y=true then .ok (.bl (aO x y))else .bad
def jU (x y:T):Rs T:=if ft x y=true then .ok (.bl (!aO x y))else .bad
theorem fS {x y:T}(h:x.dep<=60)(hx:x.nd=true)(hy:y.nd=true):ft x y=true:=by unfold ft;rw[decide_eq_true h,hx,hy];rfl
theorem o8 {x y:T}(h:y.dep<=60)(hx:x.nd=true)(hy:y.nd=true):ft x y=true:=by unfold ft;rw[decide_eq_true h,hx,hy,Bool.or_true];rfl
theorem hG {x y:T}(h:ft x y=true):x.nd=true/\y.nd=true:=by
 unfold ft at h;exact Bool.and_eq_true_iff.mp (Bool.and_eq_true_iff.mp h).2
theorem mj {x y:T}(h:ft x y=true):x.dep<=60\/y.dep<=60:=by
 unfold ft at h
 replace h:=(Bool.and_eq_true_iff.mp h).1
 rcases Bool.or_eq_true_iff.mp h with h | h
 ·exact .inl (of_decide_eq_true h)
 ·exact .inr (of_decide_eq_true h)
theorem kK (hu:X.A.units+60<cLine):OpT X (compareOp .Eq) jM:=by
 intro pins s σ H O x y vx vy ux uy Q I hf rx ry r1 r2 hp;unfold jM at hp
 split at hp
 ·rename_i h
  have z:=xr 60 X.A s x y ux uy (mj h) hu (Rep.val I (hG h).1 rx r1) (Rep.val I (hG h).2 ry r2);exact z.2.1 _ _ _ _ ⟨.bl _,H,I,rfl,hp H (Same.refl H) _ (Rep.bl_ _)⟩
 ·exact hp.elim
theorem oH (hu:X.A.units+60<cLine):OpT X (compareOp .NotEq) jU:=by
 intro pins s σ H O x y vx vy ux uy Q I hf rx ry r1 r2 hp;unfold jU at hp
 split at hp
 ·rename_i h
  have z:=xr 60 X.A s x y ux uy (mj h) hu (Rep.val I (hG h).1 rx r1) (Rep.val I (hG h).2 ry r2);exact z.2.2 _ _ _ _ ⟨.bl _,H,I,rfl,hp H (Same.refl H) _ (Rep.bl_ _)⟩
 ·exact hp.elim
def T.items:T->Option (List T)
 | .tup l=>some l
 | .lst l=>some l
 | .scr l=>some (l.map T.int)
 | _=>none
def io (x:T)(l:List T):Bool:=l.any λy=>aO y x
def uS (x y:T):Rs T:=match y.items with
 | some l=>if (x.dep<=60\/deps l<=60)/\x.nd=true/\y.nd=true then .ok (.bl (io x l))else .bad
 | none=> .bad
theorem xf {A:Around}{s:Shared}{x:T}{ux:Value}(rx:ReV s x ux)(hu:A.units+60<cLine){l:List T}{us:List Value}(hd:x.dep<=60\/deps l<=60)(r:ReVs s l us) :
  ∃e:Value->Bool,(∀y∈us,EqAt A s y ux (e y))/\us.any e=io x l:=by
 classical
 have ex:∀y∈us,∃t∈l,ReV s t y:=λy hy=>by
  obtain⟨i,hi,rfl⟩:=List.getElem_of_mem hy
  have hl:=r.length
  have e1:l[i]? =some l[i]:=by simp
  obtain⟨u,q1,q2⟩:=r.get e1
  have:us[i]? =some us[i]:=by simp
  rw[this]at q1;cases q1;exact⟨l[i],List.getElem_mem _,q2⟩
 let e:Value->Bool:=λy=>decide (∃t∈l,ReV s t y/\aO t x=true)
 have dep:∀t∈l,t.dep<=60\/x.dep<=60:=λt ht=>by
  rcases hd with h | h
  ·exact .inr h
  ·obtain⟨i,hi,rfl⟩:=List.getElem_of_mem ht
   exact .inl (Nat.le_trans (gG (i:=i) (by simp)) h)
 have uniq:∀y t t',ReV s t y->ReV s t' y->aO t x=aO t' x:=λy t t' z z'=>by
  rw[<-jc t,<-jc t',ReV.nf z z']
 have agree:∀y t,t∈l->ReV s t y->e y=aO t x:=λy t h z=>by
  show decide (∃t∈l,ReV s t y/\aO t x=true)=aO t x
  cases q:aO t x with
  | true=>exact decide_eq_true ⟨t,h,z,q⟩
  | false=>
   refine decide_eq_false ?_
   rintro ⟨t',h',z',q'⟩
   rw[<-uniq y t t' z z',q]at q';cases q'
 refine⟨e,λy hy=> ?_,?_⟩
 ·obtain⟨t,h,z⟩:=ex y hy
  rw[agree y t h z];exact(xr 60 A s t x y ux (dep t h) hu z rx).1
 ·have go:∀(l':List T) (us':List Value),(∀t∈l',t∈l)->ReVs s l' us'->us'.any e=l'.any λy=>aO y x:=by
   intro l'
   induction l' with
   | nil=>intro us' _ r';rw[ReVs.nil_iff.mp r'];rfl
   | cons t l' ih=>
    intro us' sub r';obtain⟨u,ws,rfl,p,q⟩:=ReVs.cons_iff.mp r';rw[List.any_cons,List.any_cons,ih ws (λt ht=>sub t (List.mem_cons_of_mem _ ht)) q,agree u t (sub t List.mem_cons_self) p]
  exact go l us (λ_ h=>h) r
theorem se {s:Shared}{y:T}{u:Value}{l:List T}(r:ReV s y u)(h:y.items=some l):∃a us,u= .ref a/\ReVs s l us/\(s.heap.IsTuple a us.toArray\/s.heap.IsList a us.toArray):=by
 cases y with
 | tup m=>cases h;unfold ReV at r;obtain⟨a,us,e,h1,h2⟩:=r;exact⟨a,us,e,h2,.inl h1⟩
 | lst m=>cases h;unfold ReV at r;obtain⟨a,us,e,h1,h2⟩:=r;exact⟨a,us,e,h2,.inr h1⟩
 | scr m=>cases h;unfold ReV at r;obtain⟨a,us,e,h1,h2⟩:=r;exact⟨a,us,e,dm h2,.inr h1⟩
 | _=>cases h
theorem ya (hu:X.A.units+61<cLine):OpT X (compareOp .In) uS:=by
 intro pins s σ H O x y vx vy ux uy Q I hf rx ry r1 r2 hp;unfold uS at hp
 split at hp
 ·rename_i l hl
  split at hp
  ·rename_i hd3
   obtain⟨hd,hnx,hny⟩:=hd3;obtain⟨a,us,rfl,rs,hh⟩:=se (Rep.val I hny ry r2) hl;obtain⟨e,he,ha⟩:=xf (A:=X.A.in1) (Rep.val I hnx rx r1) (by show X.A.units+1+60<cLine;omega) hd rs
   have q:=hp H (Same.refl H) _ (Rep.bl_ (io x l))
   have he':∀y,y∈us.toArray->EqAt X.A.in1 s y ux (e y):=λy hy=>he y (by simpa using hy)
   have ha':us.toArray.any e=io x l:=by simpa using ha
   rcases hh with hh | hh
   ·exact in_tupleAt e hh he' (by rw[ha'];exact⟨.bl _,H,I,rfl,q⟩)
   ·exact in_listAt e hh he' (by rw[ha'];exact⟨.bl _,H,I,rfl,q⟩)
  ·exact hp.elim
 ·exact hp.elim
def ch (g g':T->T->Rs T)(fa fb fc:En->Rs T)(Z:En):Rs T:=do
 let x <-fa Z
 let y <-fb Z
 let z <-g x y
 match z with
 | .bl true=>do
  let w <-fc Z
  g' y w
 | .bl false=> .ok (.bl false)
 | _=> .bad
theorem wA {op op':CmpOp}{g g':T->T->Rs T}(ho:OpT X (compareOp op) g)(ho':OpT X (compareOp op') g')(ha:cg X a fa)(hb:cg X b fb)(hc:cg X c fc)
  (hm:lastMarks [op,op'] [b,c] =false:=by with_unfolding_all rfl):cg X (.Compare a [op,op'] [b,c] pos) (ch g g' fa fb fc):=by
 intro pins s σ H Q I ⟨Z,O,E,hq⟩
 have h1:=aS E hq;refine Compare_chain (cf (ha pins s σ H _ I h1) λv s1 ⟨x,H1,I1,r1,t,rt,s',E',q1⟩=>chain_link ?_) hm
 have h2:=aS (f:=fb) E' q1;refine cf (hb pins s1 σ H1 _ I1 h2) λu s2 hh_=> ?_
 obtain⟨y,H2,I2,r2,t2,rt2,s'',E'',q2⟩:=hh_
 refine cf (ho pins s2 σ H2 O t t2 x y v u (λv' H'=> ∃t',Rep X.K O H' t' v'/\Same H2 H'/\Post X H' (match t' with
  | .bl true=>fc Z >>= λw=>g' t2 w
  | .bl false=> .ok (.bl false)
  | _=> .bad) (λt H'=> ∀v,Rep X.K O H' t v->Q v H')) I2 (λp=>E''.fresh) (rt.same s'') rt2 r1 r2 (Post.mono q2.bind λt' H' s3 q v rv=>⟨t',rv,s3,q⟩)) λd s3 ⟨z,H3,I3,r3,t3,rt3,sm3,q3⟩=> ?_
 have E3:=E''.same sm3
 split at q3
 ·cases Rep.bl_iff.mp rt3
  cases r3;refine wpAny_truthy_bool (ite_tt (chain_last ?_))
  have h4:=aS (f:=fc) E3 q3;refine cf (hc pins s3 σ H3 _ I3 h4) λw' s4 ⟨z',H4,I4,r4,t4,rt4,s4',E4,q4⟩=> ?_
  exact ho' pins s4 σ H4 O t2 t4 y z' u w' Q I4 (λp=>E4.fresh) ((rt2.same sm3).same s4') rt4 r2 r4 q4
 ·cases Rep.bl_iff.mp rt3
  cases r3;refine wpAny_truthy_bool (ite_ff ⟨.bl false,H3,I3,rfl,q3 H3 (Same.refl H3) _ (Rep.bl_ false)⟩)
 ·exact q3.elim
def tb (f:En->Rs T)(Z:En):Rs Bool:=do
 let x <-f Z
 match x with
 | .bl k=> .ok k
 | _=> .bad
def bt (f:En->Rs Bool)(Z:En):Rs T:=do
 let k <-f Z
 .ok (.bl k)
theorem yJ {e:Expr}{f:En->Rs T}(h:cg X e f)(he:∀whole,isTrue e X.env whole=(do let v <-whole;standAt e.pos;holding [v] (truthy v)):=by intro _;rfl):pE X e (tb f):=by
 intro pins s σ H Q I ⟨Z,O,E,hq⟩;refine za h he pins s σ H Q I ?_
 obtain⟨Z1,O1,E1,h1⟩:=aS E hq;refine⟨Z1,O1,E1,Post.mono h1 λts H1 s1 q vs r=> ?_⟩
 obtain⟨t',r',s',E',q'⟩:=q vs r
 split at q'
 ·exact⟨_,Rep.bl_iff.mp r',q' H1 (Same.refl H1)⟩
 ·exact q'.elim
theorem yL {op:CmpOp}{g:T->T->Rs T}(ho:OpT X (compareOp op) g)(ha:cg X a fa)(hb:cg X b fb)(hm:behindInMarks op b=false:=by rfl):pE X (.Compare a [op] [b] pos) (tb (o2 g fa fb)):=by
 intro pins s σ H Q I ⟨Z,O,E,hq⟩
 have hq':Post X H (o2 g fa fb Z) λt H'=> ∀v,Rep X.K O H' t v->∃k,v= .bl k/\Q k H':=Post.mono hq.bind λt H' s' q v r=>by
  split at q
  ·exact⟨_,Rep.bl_iff.mp r,q H' (Same.refl H')⟩
  ·exact q.elim
 have h1:=aS E hq';refine wpAny_isTrue_Compare1 (cf (ha pins s σ H _ I h1) λv s1 ⟨x,H1,I1,r1,t,rt,s',E',q1⟩=> ?_) hm
 have h2:=aS (f:=fb) E' q1;refine cf (hb pins s1 σ H1 _ I1 h2) λu s2 hh_=> ?_
 obtain⟨y,H2,I2,r2,t2,rt2,s'',E'',q2⟩:=hh_;refine cf (ho pins s2 σ H2 O t t2 x y v u _ I2 (λp=>E''.fresh) (rt.same s'') rt2 r1 r2 q2) λd s3 hh_=> ?_
 obtain⟨z,H3,I3,r3,k,e,q3⟩:=hh_;subst e;cases r3;exact wpAny_truthy_bool ⟨H3,I3,q3⟩
def lA (f g:En->Rs Bool)(Z:En):Rs Bool:=do
 let k <-f Z
 if k then g Z else .ok false
def jI (f g:En->Rs Bool)(Z:En):Rs Bool:=do
 let k <-f Z
 if k then .ok true else g Z
def cD (f:En->Rs Bool)(Z:En):Rs Bool:=do
 let k <-f Z
 .ok (!k)
variable {f g:En->Rs Bool}{cv:List Expr}
abbrev yo (X:Cx)(e:Expr)(f:En->Rs Bool):Prop:=PW X e (sY X f)
theorem wg (ha:pE X a f):yo X (.BoolOp .And [a] pos) f:=wC ha
theorem yH (ha:pE X a f):yo X (.BoolOp .Or [a] pos) f:=y8 ha
theorem yI (ha:pE X a f)(hb:yo X (.BoolOp .And (b::cv) pos) g):yo X (.BoolOp .And (a::b::cv) pos) (lA f g):=by
 intro wh pins s σ H Q I ⟨Z,O,E,hq⟩;refine y9 ha hb wh pins s σ H Q I ?_
 obtain⟨Z1,O1,E1,h1⟩:=iK E hq;refine⟨Z1,O1,E1,Post.mono h1 λk H1 s1 q=> ?_⟩
 obtain⟨s',E',q'⟩:=q
 cases k with
 | true=>rw[if_pos rfl];exact⟨Z,O,E',by simpa using q'⟩
 | false=>rw[if_neg Bool.false_ne_true];exact q' H1 (Same.refl H1)
theorem AT (ha:pE X a f)(hb:yo X (.BoolOp .Or (b::cv) pos) g):yo X (.BoolOp .Or (a::b::cv) pos) (jI f g):=by
 intro wh pins s σ H Q I ⟨Z,O,E,hq⟩;refine Bc ha hb wh pins s σ H Q I ?_
 obtain⟨Z1,O1,E1,h1⟩:=iK E hq;refine⟨Z1,O1,E1,Post.mono h1 λk H1 s1 q=> ?_⟩
 obtain⟨s',E',q'⟩:=q
 cases k with
 | true=>rw[if_pos rfl];exact q' H1 (Same.refl H1)
 | false=>rw[if_neg Bool.false_ne_true];exact⟨Z,O,E',by simpa using q'⟩
theorem qt_w {e:Expr}(h:yo X e f):pE X e f:=h.pt
theorem yK (ha:pE X a f):pE X (.UnaryOp .Not a pos) (cD f):=by
 intro pins s σ H Q I ⟨Z,O,E,hq⟩;refine zc ha pins s σ H Q I ?_
 obtain⟨Z1,O1,E1,h1⟩:=iK E hq;exact⟨Z1,O1,E1,Post.mono h1 λk H1 s1 ⟨s',E',q'⟩=>q' H1 (Same.refl H1)⟩
def bJ (f g:En->Rs T)(Z:En):Rs T:=do
 let x <-f Z
 match x with
 | .bl true=>g Z
 | .bl false=> .ok (.bl false)
 | _=> .bad
def vG (f g:En->Rs T)(Z:En):Rs T:=do
 let x <-f Z
 match x with
 | .bl true=> .ok (.bl true)
 | .bl false=>g Z
 | _=> .bad
def w9:T->Rs T
 | .bl k=> .ok (.bl (!k))
 | _=> .bad
theorem A1 {op}(h:cg X a fa):cg X (.BoolOp op [a] pos) fa:=zi h
theorem Bb (ha:cg X a fa)(hb:cg X (.BoolOp .And (b::cv) pos) fb):cg X (.BoolOp .And (a::b::cv) pos) (bJ fa fb):=by
 intro pins s σ H Q I ⟨Z,O,E,hq⟩;refine zm ha hb pins s σ H Q I ?_
 obtain⟨Z1,O1,E1,h1⟩:=aS E hq;refine⟨Z1,O1,E1,Post.mono h1 λts H1 s1 q vs r=> ?_⟩
 obtain⟨t',r',s',E',q'⟩:=q vs r
 split at q'
 ·exact⟨true,Rep.bl_iff.mp r',by rw[if_pos rfl];exact⟨Z,O,E',q'⟩⟩
 ·exact⟨false,Rep.bl_iff.mp r',by rw[if_neg Bool.false_ne_true];exact q' H1 (Same.refl H1) _ (Rep.bl_ false)⟩
 ·exact q'.elim
theorem q_or (ha:cg X a fa)(hb:cg X (.BoolOp .Or (b::cv) pos) fb):cg X (.BoolOp .Or (a::b::cv) pos) (vG fa fb):=by
 intro pins s σ H Q I ⟨Z,O,E,hq⟩;refine Bf ha hb pins s σ H Q I ?_
 obtain⟨Z1,O1,E1,h1⟩:=aS E hq;refine⟨Z1,O1,E1,Post.mono h1 λts H1 s1 q vs r=> ?_⟩
 obtain⟨t',r',s',E',q'⟩:=q vs r
 split at q'
 ·exact⟨true,Rep.bl_iff.mp r',by rw[if_pos rfl];exact q' H1 (Same.refl H1) _ (Rep.bl_ true)⟩
 ·exact⟨false,Rep.bl_iff.mp r',by rw[if_neg Bool.false_ne_true];exact⟨Z,O,E',q'⟩⟩
 ·exact q'.elim
theorem A2 (ha:cg X a fa):cg X (.UnaryOp .Not a pos) (o1 w9 fa):=by
 intro pins s σ H Q I ⟨Z,O,E,hq⟩;refine zj ha pins s σ H Q I ?_
 obtain⟨Z1,O1,E1,h1⟩:=aS E hq;refine⟨Z1,O1,E1,Post.mono h1 λts H1 s1 q vs r=> ?_⟩
 obtain⟨t',r',s',E',q'⟩:=q vs r;unfold w9 at q'
 split at q'
 ·exact⟨_,Rep.bl_iff.mp r',q' H1 (Same.refl H1) _ (Rep.bl_ _)⟩
 ·exact q'.elim
def Au (f:En->Rs Bool)(fa fb:En->Rs T)(Z:En):Rs T:=do
 let k <-f Z
 if k then fa Z else fb Z
theorem q_if (hc:pE X c f)(ha:cg X a fa)(hb:cg X b fb):cg X (.IfExp c a b pos) (Au f fa fb):=by
 intro pins s σ H Q I ⟨Z,O,E,hq⟩;refine tX hc ha hb pins s σ H Q I ?_
 obtain⟨Z1,O1,E1,h1⟩:=iK E hq;refine⟨Z1,O1,E1,Post.mono h1 λk H1 s1 q=> ?_⟩
 obtain⟨s',E',q'⟩:=q
 cases k with
 | true=>rw[if_pos rfl];exact⟨Z,O,E',by simpa using q'⟩
 | false=>rw[if_neg Bool.false_ne_true];exact⟨Z,O,E',by simpa using q'⟩
end
end Tr
namespace HT
open PySem PyProof.Rows
section
variable {prog:Program}{w:World}{A:Around}{E:Value->Shared->Prop}{s:Shared}
theorem hZ {t:Addr}{items:Array Value}{Q:Bool->Shared->Prop}(ht:IsTup s.heap t items)(h:Q true s):wpAny (model prog w) A (Builtin.Tuple.tupleIsExact (.ref t)) Q E s:=by
 unfold Builtin.Tuple.tupleIsExact;refine wpAny_bind (wpAny_typeOf ht.typeIs (wpAny_pure ?_))
 exact h
theorem getItem_tuple_whole {t sl:Addr}{items:Array Value}{vl vu:Value}{lo hi:Option Int}{Q:Value->Shared->Prop}(ht:IsTup s.heap t items)(hs:s.heap.IsSliceOf sl vl vu .none)(pl:IsPart vl lo)(pu:IsPart vu hi)
  (hw:sIx items.size 0 lo=0/\sIx items.size items.size hi=items.size) (h:Q (.ref t) s):wpAny (model prog w) A (getItem (.ref t) (.ref sl)) Q E s:=by
 obtain⟨os,hos,hcs,hds⟩:=id hs
 have hTs:s.TypeIs (.ref sl) "slice":=⟨os,hos,hcs⟩;unfold getItem
 try with_reducible refine wpAny_holding ?_
 first | refine wpAny_bind (wpAny_pure ?_) | skip
 refine wpAny_bind (wpAny_sequenceKey ht.typeIs (by decide) ?_)
 refine wpAny_bind (wpAny_callSpecial?_slot (name:=Str.ofString "__getitem__") ht.typeIs PyProof.Rows.slot_tuple_getitem
  (wpAny_call_entry PyProof.Rows.slot_tuple_getitem ht.typeIs entry_tuple_getitem ?_ (args_tuple_getitem _ _)))
 show wpAny _ _ (Builtin.Tuple.tupleItemsOf (.ref t) >>= _) _ _ s
 refine wpAny_bind (tupleItemsOf_ ht ?_)
 refine wpAny_bind (wpAny_typeOf hTs ?_)
 rw[if_pos (by decide)]
 refine wpAny_bind (fL hs pl pu ?_)
 have hyes:(((sIx items.size 0 lo:Nat):Int) == 0&&(1:Int) == 1&&(sIx items.size items.size hi - sIx items.size 0 lo) == items.size)=true:=by
  rw[hw.1,hw.2];simp
 show wpAny _ _ (if (((sIx items.size 0 lo:Nat):Int) == 0&&(1:Int) == 1&&(sIx items.size items.size hi - sIx items.size 0 lo) == items.size)=true then _ else _) _ _ s
 rw[if_pos hyes]
 first
  | refine wpAny_bind (hZ ht ?_)
  | refine hZ ht ?_
 try rw[if_pos rfl]
 first
  | exact wpAny_bind (wpAny_rule (wpAny_pure ⟨_,rfl,wpAny_pure h⟩))
  | exact wpAny_bind (wpAny_rule (wpAny_bind (wpAny_pure (wpAny_pure ⟨_,rfl,wpAny_pure h⟩))))
theorem jj {sl:Addr}{t:Tok}{n:Nat}{Q:Int×Int×Nat->Shared->Prop}(hs:s.heap.IsSliceOf sl .none .none (.int (-1) t))
  (h:Q ((n:Int) - 1,-1,n) s):wpAny (model prog w) A (Builtin.Slice.sliceApplied (.ref sl) (pure (n:Int))) Q E s:=by
 obtain⟨os,hos,hcs,hds⟩:=id hs;unfold Builtin.Slice.sliceApplied Builtin.Slice.sliceFields;refine wpAny_bind (wpAny_bind (wpAny_field hos hds (x:=.none) rfl (wpAny_bind (wpAny_field hos hds (x:=.none) rfl (wpAny_bind (wpAny_field hos hds (x:=.int (-1) t) rfl (wpAny_pure ?_)))))))
 refine wpAny_bind (slicePart_int ?_)
 show wpAny _ _ (if ((-1:Int) == 0)=true then _ else _) _ _ s
 rw[if_neg (by decide)]
 refine wpAny_bind (slicePart_none (wpAny_bind (slicePart_none (wpAny_bind (wpAny_pure ?_)))))
 show wpAny _ _ (match Builtin.Slice.sliceAdjust none none (-1) (n:Int)with | (lo,hi)=>pure (lo,(-1:Int),Builtin.Slice.slicePlaces lo hi (-1))) _ _ s
 have e1:Builtin.Slice.sliceAdjust none none (-1) (n:Int)=((n:Int) - 1,-1):=by simp[Builtin.Slice.sliceAdjust]
 have e2:Builtin.Slice.slicePlaces ((n:Int) - 1) (-1) (-1)=n:=by
  unfold Builtin.Slice.slicePlaces;simp only[show ¬((-1:Int) > 0)by decide,if_false,Int.neg_neg,Int.ediv_one]
  split <;> omega
 rw[e1]
 show wpAny _ _ (pure ((n:Int) - 1,(-1:Int),Builtin.Slice.slicePlaces ((n:Int) - 1) (-1) (-1))) _ _ s
 rw[e2];exact wpAny_pure h
theorem oF (xs:List Value):((List.range xs.length).filterMap λ(m:Nat)=>xs.toArray[(((xs.length:Int) - 1)+(m:Int)*(-1)).toNat]?)=xs.reverse:=by
 apply List.ext_getElem?
 intro i
 have key:∀m∈List.range xs.length,xs.toArray[(((xs.length:Int) - 1)+(m:Int)*(-1)).toNat]? =some (xs.reverse.getD m .none):=λm hm=>by
  have hm':m<xs.length:=List.mem_range.mp hm
  have e:(((xs.length:Int) - 1)+(m:Int)*(-1)).toNat=xs.length - 1 - m:=by omega
  rw[e,List.getElem?_toArray,List.getElem?_eq_getElem (by omega)]
  have:m<xs.reverse.length:=by simpa using hm'
  simp[List.getD,List.getElem?_eq_getElem this,List.getElem_reverse]
 have hmap:((List.range xs.length).filterMap λ(m:Nat)=>xs.toArray[(((xs.length:Int) - 1)+(m:Int)*(-1)).toNat]?)=(List.range xs.length).map λm=>xs.reverse.getD m .none:=by
  have gen:∀(r:List Nat) (f:Nat->Option Value) (g:Nat->Value),(∀m∈r,f m=some (g m))->r.filterMap f=r.map g:=by
   intro r f g
   induction r with
   | nil=>intro _;rfl
   | cons m r ih=>
    intro h;rw[List.filterMap_cons,h m List.mem_cons_self,List.map_cons,ih λm' hm'=>h m' (List.mem_cons_of_mem _ hm')]
  exact gen _ _ _ key
 rw[hmap];rw[List.getElem?_map]
 by_cases hi:i<xs.length
 ·have hr:i<xs.reverse.length:=by simpa using hi
  rw[List.getElem?_range hi]
  simp[List.getD,List.getElem?_eq_getElem hr]
 ·rw[List.getElem?_eq_none (by simpa using hi),List.getElem?_eq_none (by simpa using hi)]
  rfl
theorem slicePick_rev (xs:List Value):slicePick xs.toArray none none (some (-1))=xs.reverse.toArray:=by
 have e:slicePick xs.toArray none none (some (-1))=((sliceRange ((xs.toArray.size:Int) - 1) (-1) (-1)).filterMap (xs.toArray[·]?)).toArray:=rfl
 rw[e,<-oF xs,List.size_toArray];unfold sliceRange
 have c:(if ((xs.length:Int) - 1) > -1 then(((xs.length:Int) - 1) - (-1) - (-1) - 1) / (-(-1:Int))else 0).toNat=xs.length:=by
  rw[Int.neg_neg,Int.ediv_one]
  split <;> omega
 show(((List.range (if ((xs.length:Int) - 1) > -1 then(((xs.length:Int) - 1) - (-1) - (-1) - 1) / (-(-1:Int))else 0).toNat).map λ(k:Nat)=>(((xs.length:Int) - 1)+(-1)*(k:Int)).toNat).filterMap (xs.toArray[·]?)).toArray=_
 rw[c,List.filterMap_map]
 congr 2
 funext k
 show xs.toArray[(((xs.length:Int) - 1)+(-1)*(k:Int)).toNat]? =_
 rw[Int.mul_comm]
theorem getItem_tuple_rev {u sl:Addr}{items:List Value}{t:Tok}{Q:Value->Shared->Prop}(ht:IsTup s.heap u items.toArray)(hs:s.heap.IsSliceOf sl .none .none (.int (-1) t))
  (h:Q (.ref s.heap.objs.size) { s with heap:=s.heap.push { cls:=.type "tuple",data:=.seq items.reverse.toArray } })
  (hsz:items.length<=sizeLine):wpAny (model prog w) A (getItem (.ref u) (.ref sl)) Q E s:=by
 have htake:sizeOk (.seq items.reverse.toArray):=by
  show items.reverse.toArray.size<=sizeLine
  simpa using hsz
 obtain⟨os,hos,hcs,hds⟩:=id hs
 have hTs:s.TypeIs (.ref sl) "slice":=⟨os,hos,hcs⟩;unfold getItem
 try with_reducible refine wpAny_holding ?_
 first | refine wpAny_bind (wpAny_pure ?_) | skip
 refine wpAny_bind (wpAny_sequenceKey ht.typeIs (by decide) ?_)
 refine wpAny_bind (wpAny_callSpecial?_slot (name:=Str.ofString "__getitem__") ht.typeIs PyProof.Rows.slot_tuple_getitem
  (wpAny_call_entry PyProof.Rows.slot_tuple_getitem ht.typeIs entry_tuple_getitem ?_ (args_tuple_getitem _ _)))
 show wpAny _ _ (Builtin.Tuple.tupleItemsOf (.ref u) >>= _) _ _ s
 refine wpAny_bind (tupleItemsOf_ ht ?_)
 refine wpAny_bind (wpAny_typeOf hTs ?_)
 rw[if_pos (by decide)]
 refine wpAny_bind (jj (n:=items.toArray.size) hs ?_)
 show wpAny _ _ (if ((((items.toArray.size:Nat):Int) - 1) == 0&&(-1:Int) == 1&&items.toArray.size == items.toArray.size)=true then _ else _) _ _ s
 rw[if_neg (by simp)]
 have e:((List.range items.toArray.size).filterMap λ(m:Nat)=>items.toArray[((((items.toArray.size:Nat):Int) - 1)+(m:Int)*(-1)).toNat]?)=items.reverse:=by
  rw[List.size_toArray];exact oF items
 rw[e]
 first
  | exact wpAny_bind (m:=Builtin.Tuple.tupleExact _) (wpAny_newObj_type (wpAny_pure ⟨_,rfl,wpAny_pure h⟩) htake)
  | exact wpAny_bind (m:=Builtin.Tuple.tupleExact _) (wpAny_newObj_type (wpAny_bind (wpAny_pure (wpAny_pure ⟨_,rfl,wpAny_pure h⟩))) htake)
  | exact wpAny_bind (wpAny_bind (m:=Builtin.Tuple.tupleExact _) (wpAny_newObj_type (wpAny_pure (wpAny_pure ⟨_,rfl,wpAny_pure h⟩)) htake))
  | exact wpAny_bind (wpAny_bind (m:=Builtin.Tuple.tupleExact _) (wpAny_newObj_type (wpAny_pure ⟨_,rfl,wpAny_pure h⟩) htake))
end
end HT
namespace Tr
open PySem PySem.Spec PyProof.Rows L2
section
variable {X:Cx}{a b c:Expr}{fa fb fc:En->Rs T}{pos:Pos}
theorem Reps.atI {K:PySem.W.Frag}{O:Ow}{H:Hp}{l:List T}{vs:List V}{i:Int}{t:T}(r:Reps K O H l vs)(e:L2.atI l i=some t):∃v,L2.atI vs i=some v/\Rep K O H t v:=by
 unfold L2.atI at e ⊢;rw[r.length]at e
 cases q:ixN vs.length i with
 | none=>rw[q]at e;cases e
 | some j=>
  rw[q]at e;obtain⟨v,e1,e2⟩:=r.get (i:=j) (t:=t) e;exact⟨v,e1,e2⟩
def aN (x y:T):Rs T:=match x.items,y with
 | some l,.int i=>match L2.atI l i with
  | some t=> .ok t
  | none=> .bad
 | _,_=> .bad
theorem q_ix (ha:cg X a fa)(hb:cg X b fb)(hs:rA b:=by intro _ _;rfl):cg X (.Subscript a b pos) (o2 aN fa fb):=by
 intro pins s σ H Q I ⟨Z,O,E,hq⟩
 have h1:=aS E hq;refine Subscript_ (cf (ha pins s σ H _ I h1) λv s1 hh_=> ?_)
 obtain⟨x,H1,I1,r1,t,rt,s',E',q1⟩:=hh_
 have h2:=aS (f:=fb) E' q1;refine cf (hb pins s1 σ H1 _ I1 h2) λu s2 hh_=> ?_
 obtain⟨y,H2,I2,r2,t2,rt2,s'',E'',q2⟩:=hh_
 have rt':=rt.same s'';unfold aN at q2
 split at q2
 ·rename_i l i hl
  split at q2
  ·rename_i z hz
   have hy:=Rep.int_iff.mp rt2;refine zR a b pins s2 σ H2 x y v u Q I2 r1 r2 ?_ (hs _ _)
   cases t with
   | tup m=>
    cases hl;obtain⟨p,vs,e,n,q,rr⟩:=Rep.tup_iff.mp rt';obtain⟨w,ew,rw'⟩:=rr.atI hz
    exact .inr (.inl ⟨p,vs,i,w,e,hy,SqT.of q,ew,q2 H2 (Same.refl H2) _ rw'⟩)
   | lst m=>
    cases hl;obtain⟨p,vs,e,n,q,rr⟩:=Rep.lst_iff.mp rt';obtain⟨w,ew,rw'⟩:=rr.atI hz
    exact .inl ⟨p,vs,i,w,e,hy,SqL.of q,ew,q2 H2 (Same.refl H2) _ rw'⟩
   | scr m=>
    cases hl;unfold Rep at rt';obtain⟨p,e,n,q⟩:=rt';obtain⟨w,ew,rw'⟩:=(Reps.ints (K:=X.K) (O:=O) (H:=H2) (ns:=m)).atI hz
    exact .inl ⟨p,_,i,w,e,hy,q,ew,q2 H2 (Same.refl H2) _ rw'⟩
   | _=>cases hl
  ·exact q2.elim
 ·exact q2.elim
def jZ (l:List T)(lo hi:Option Int):List T:=(l.drop (HT.sIx l.length 0 lo)).take (HT.sIx l.length l.length hi - HT.sIx l.length 0 lo)
theorem Reps.cut {K:PySem.W.Frag}{O:Ow}{H:Hp}{l:List T}{vs:List V}(r:Reps K O H l vs)(lo hi:Option Int):Reps K O H (jZ l lo hi) (pA vs lo hi):=by
 unfold jZ pA;rw[r.length];exact(r.drop _).take _
theorem sB {l:List T}{lo hi:Option Int}(h:HT.sIx l.length 0 lo=0/\HT.sIx l.length l.length hi=l.length):jZ l lo hi=l:=by
 unfold jZ;rw[h.1,h.2];simp
theorem sl_tup_whole:SlR X (λx lo hi H Q=> ∃a xs,x= .ref a/\SqT X.K H a xs/\(HT.sIx xs.length 0 lo=0/\HT.sIx xs.length xs.length hi=xs.length)/\Q (.ref a) H):=by
 intro pins s σ H x v vl vu lo hi sl Q I rx hs pl pu h;obtain⟨a,xs,rfl,hx,hw,q⟩:=h;cases rx;obtain⟨its,r,ht,hz⟩:=I.tuple hx
 have hlen:its.toArray.size=xs.length:=by rw[List.size_toArray];exact r.length.symm
 refine⟨"tuple",_,PyProof.Rows.slot_tuple_getitem.lookup,ht.typeIs,?_⟩
 exact HT.getItem_tuple_whole ht hs pl pu (by rw[hlen];exact hw) ⟨.ref a,H,I,rfl,q⟩
def pN (_:En):Rs (Option Int):=.ok none
def pS (f:En->Rs T)(Z:En):Rs (Option Int):=do
 let x <-f Z
 match x with
 | .int i=> .ok (some i)
 | _=> .bad
def tPO (X:Cx)(f:En->Rs (Option Int)):TO:=λσ H Q=> ∃Z O,EnvO X.K O H Z σ/\Post X H (f Z) λb H'=>Q b H'
abbrev B4 (X:Cx)(e:Option Expr)(f:En->Rs (Option Int)):Prop:=PO X e (tPO X f)
theorem wq:B4 X none pN:=by
 intro pins s σ H Q I ⟨Z,O,E,hq⟩;exact wK pins s σ H Q I (hq H (Same.refl H))
theorem wo (ha:cg X a fa):B4 X (some a) (pS fa):=by
 intro pins s σ H Q I ⟨Z,O,E,hq⟩;refine wJ ha pins s σ H Q I ?_
 obtain⟨Z1,O1,E1,h1⟩:=aS E hq;refine⟨Z1,O1,E1,Post.mono h1 λts H1 s1 q vs r=> ?_⟩
 obtain⟨t',r',s',E',q'⟩:=q vs r
 split at q'
 ·exact⟨_,Rep.int_iff.mp r',q' H1 (Same.refl H1)⟩
 ·exact q'.elim
def slT (x:T)(lo hi:Option Int):Rs T:=match x with
 | .tup l=> .ok (.tup (jZ l lo hi))
 | .lst l=> .ok (.lst (jZ l lo hi))
 | _=> .bad
def sl (fe:En->Rs T)(fl fu:En->Rs (Option Int))(Z:En):Rs T:=do
 let x <-fe Z
 let l <-fl Z
 let u <-fu Z
 slT x l u
theorem n6 {σ:L2.St}{H:Hp}{Z:En}{O:Ow}{α:Type}{f:En->Rs (Option Int)}{k:Option Int->Rs α}{Q:α->Hp->Prop}(E:EnvO X.K O H Z σ)(h:Post X H (f Z >>= k) Q) :
  tPO X f σ H λb H'=>Same H H'/\EnvO X.K O H' Z σ/\Post X H' (k b) Q:=
 ⟨Z,O,E,Post.mono h.bind λt H' s q=>⟨s,E.same s,q⟩⟩
theorem wz {lo hi:Option Expr}{p2:Pos}{fl fu:En->Rs (Option Int)}(ha:cg X a fa)(hl:B4 X lo fl)(hu:B4 X hi fu):cg X (.Subscript a (.Slice lo hi none p2) pos) (sl fa fl fu):=by
 intro pins s σ H Q I ⟨Z,O,E,hq⟩;refine tU (sl_tup.or (sl_tup_whole.or v5)) ha hl hu pins s σ H Q I ?_
 obtain⟨Z1,O1,E1,h1⟩:=aS E hq;refine⟨Z1,O1,E1,Post.mono h1 λts H1 s1 q vs r=> ?_⟩
 obtain⟨t',r',s',E',q'⟩:=q vs r;obtain⟨Z2,O2,E2,h2⟩:=n6 E' q';refine⟨Z2,O2,E2,Post.mono h2 λo1 H2 s2 q=> ?_⟩
 obtain⟨s2',E2',q2⟩:=q;obtain⟨Z3,O3,E3,h3⟩:=n6 E2' q2;refine⟨Z3,O3,E3,Post.mono h3 λo2 H3 s3 q=> ?_⟩
 obtain⟨s3',E3',q3⟩:=q
 have rt:=(r'.same s2').same s3';unfold slT at q3
 split at q3
 ·rename_i l
  obtain⟨p,ws,e,n,q,rr⟩:=Rep.tup_iff.mp rt
  have hlen:=rr.length
  by_cases hw:HT.sIx ws.length 0 o1=0/\HT.sIx ws.length ws.length o2=ws.length
  ·refine .inr (.inl ⟨p,ws,e,SqT.of q,hw,?_⟩)
   rw[<-hlen]at hw;refine q3 H3 (Same.refl H3) _ ?_
   rw[sB hw];exact Rep.tup_iff.mpr ⟨p,ws,rfl,n,q,rr⟩
  ·exact .inl ⟨p,ws,e,SqT.of q,hw,λp' hp=>q3 _ (aP hp _) _ (fo hp (E3'.fresh hp) (rr.cut o1 o2))⟩
 ·rename_i l
  obtain⟨p,ws,e,n,q,rr⟩:=Rep.lst_iff.mp rt;exact .inr (.inr ⟨p,ws,e,SqL.of q,λp' hp=>q3 _ (aP hp _) _ (fN hp (E3'.fresh hp) (rr.cut o1 o2))⟩)
 ·exact q3.elim
def tF:T->Rs T
 | .tup l=> .ok (.tup l.reverse)
 | .lst l=> .ok (.lst l.reverse)
 | _=> .bad
theorem Reps.reverse {K:PySem.W.Frag}{O:Ow}{H:Hp}:∀{l:List T} {vs:List V},Reps K O H l vs->Reps K O H l.reverse vs.reverse
 | [],vs,r=>by rw[Reps.nil_iff.mp r];exact Reps.nil_
 | t::l,vs,r=>by
  obtain⟨v,us,rfl,p,q⟩:=Reps.cons_iff.mp r;rw[List.reverse_cons,List.reverse_cons];exact q.reverse.append (Reps.cons_ p Reps.nil_)
theorem A0 {j:Nat}{p1 p2 p3:Pos}(ha:cg X a fa):cg X (.Subscript a (.Slice none none (some (.UnaryOp .USub (.Constant (.int 1) j p1) p2)) p3) pos) (o1 tF fa):=by
 intro pins s σ H Q I ⟨Z,O,E,hq⟩
 have h1:=aS E hq;refine Subscript_ (cf (ha pins s σ H _ I h1) λv s1 hh_=> ?_)
 obtain⟨x,H1,I1,r1,t,rt,s',E',q1⟩:=hh_;refine wpAny_Slice ?_
 rw[evalPart_none];refine wpAny_pure (wpAny_pure ?_)
 rw[evalPart_some];refine cf (x6 sW tW pins s1 σ H1 (λw' H'=>w'= .int (-1)/\H'=H1) I1 ⟨1,rfl,rfl,rfl⟩) λsv s2 hh_=> ?_
 obtain⟨w',H2,I2,r2,e1,e2⟩:=hh_;subst e1 e2;obtain⟨tk,rfl⟩:=r2
 have I4:Inv X pins σ H2 { s2 with heap:=s2.heap.push { cls:=.type "slice",data:=.fields #[.none,.none,.int (-1) tk] } }:=I2.kept (t':=s2.toks) λb ob q=>Heap.get?_push_of_some _ q
 unfold tF at q1
 split at q1
 ·rename_i l
  obtain⟨p,ws,e,n,q,rr⟩:=Rep.tup_iff.mp rt;subst e;cases r1;obtain⟨its,r,ht,hz⟩:=I4.tuple (SqT.of q)
  have hs:Heap.IsSliceOf (s2.heap.push { cls:=.type "slice",data:=.fields #[.none,.none,.int (-1) tk] }) s2.heap.objs.size .none .none (.int (-1) tk):=Heap.IsSliceOf.new ..;refine tail_any (ops:=[.ref p,.ref s2.heap.objs.size]) ht.typeIs PyProof.Rows.slot_tuple_getitem.lookup ?_ (by with_unfolding_all rfl)
  refine HT.getItem_tuple_rev ht hs ?_ (by rw[<-r.length];exact hz)
  refine⟨.ref _,_,I4.laid (t':=s2.toks) (o:=.tup ws.reverse) (λb ob q=>Heap.get?_push_of_some _ q) (Nat.le_refl _) ?_,rfl,?_⟩
  ·exact⟨by rw[List.length_reverse];exact hz,_,r.reverse,IsTup.new _ _⟩
  ·have hn:=I4.hok.fresh (Nat.le_refl _)
   exact q1 _ (aP hn _) _ (fo hn (E'.fresh hn) rr.reverse)
 ·rename_i l
  obtain⟨p,ws,e,n,q,rr⟩:=Rep.lst_iff.mp rt;subst e;cases r1;obtain⟨its,r,ht,hz⟩:=I4.list (SqL.of q)
  have hs:Heap.IsSliceOf (s2.heap.push { cls:=.type "slice",data:=.fields #[.none,.none,.int (-1) tk] }) s2.heap.objs.size .none .none (.int (-1) tk):=Heap.IsSliceOf.new ..;refine tail_any (ops:=[.ref p,.ref s2.heap.objs.size]) ht.isList.typeIs slot_list_getitem.lookup ?_ (by with_unfolding_all rfl)
  refine wpAny_getItem_list_slice ht.isList hs .none .none (.int (-1) tk) (by simp) ?_ (by rw[List.size_toArray,<-r.length];exact hz)
  rw[HT.slicePick_rev];refine⟨.ref _,_,I4.laid (t':=s2.toks) (o:=.lst ws.reverse) (λb ob q=>Heap.get?_push_of_some _ q) (Nat.le_refl _) ?_,rfl,?_⟩
  ·exact⟨by rw[List.length_reverse];exact hz,_,0,r.reverse,Heap.get?_push_size _ rfl⟩
  ·have hn:=I4.hok.fresh (Nat.le_refl _)
   exact q1 _ (aP hn _) _ (fN hn (E'.fresh hn) rr.reverse)
 ·exact q1.elim
def CallT (X:Cx)(f:Value)(g:List T->Rs T):Prop:=
 ∀(pins:List (Addr×Obj)) (s:Shared) (σ:L2.St) (H:Hp) (O:Ow) (ts:List T) (vs:List V) (us:List Value) (Q:VK),Inv X pins σ H s->(∀p,H p=none->¬ O p)->Reps X.K O H ts vs->Vals vs us →
  Post X H (g ts) (λt H'=> ∀v,Rep X.K O H' t v->Q v H')->wpAny (model X.prog X.w) X.A (call f us) (EP X pins σ Q) X.xe s
theorem CallT.of {f:Value}{r:List V->Hp->VK->Prop}(h:CallR X f r){g:List T->Rs T}
  (w:∀(H:Hp) (O:Ow) (ts:List T) (vs:List V) (Q:VK),(∀p,H p=none->¬ O p)->Reps X.K O H ts vs->Post X H (g ts) (λt H'=> ∀v,Rep X.K O H' t v->Q v H')->r vs H Q):CallT X f g:=
 λpins s σ H O ts vs us Q I hf rs rv hp=>h pins s σ H vs us Q I rv (w H O ts vs Q hf rs hp)
def cl (g:List T->Rs T)(fs:En->Rs (List T))(Z:En):Rs T:=fs Z >>= g
variable {e:Expr}{es:List Expr}{fs:En->Rs (List T)}{x:Str}{p:Pos}{id:String}{g:List T->Rs T}
theorem wB (hc:CallT X (.builtin id) g)(hm:X.mg x=none)(hv:bootBuiltins x=some (.builtin id))(ha:nP X (e::es) fs)(hg:Gl X x:=by rfl)(hn:x≠ "__name__":=by decide)(hdb:(x == ("__debug__" : Str))=false:=by decide)
  (he:starEach (e::es) X.env=(false,eval e X.env)::starEach es X.env:=by rfl) (hpl:(backTo pos (starEach es X.env)).any (·.1)=false:=by rfl):cg X (.Call (.Name x p) (e::es) [] pos) (cl g fs):=by
 intro pins s σ H Q I ⟨Z,O,E,hq⟩;refine wpAny_Call_Name_kw (fq I hg hm hv ?_ hn hdb)
 have h1:=dZ E hq;exact PyProof.Rows.callWith_builtin1 (cf (ha pos pins s σ H _ I h1) λus s1 ⟨vs,H1,I1,r1,ts,rs,s',E',q1⟩=>hc pins s1 σ H1 O ts vs us Q I1 (λp=>E'.fresh) rs r1 q1) he hpl
theorem tL {Ty:String}(hc:CallT X (.type Ty) g)(hm:X.mg x=none)(hv:bootBuiltins x=some (.type Ty))(ha:nP X (e::es) fs)(hg:Gl X x:=by rfl)(hn:x≠ "__name__":=by decide)(hdb:(x == ("__debug__" : Str))=false:=by decide)
  (he:starEach (e::es) X.env=(false,eval e X.env)::starEach es X.env:=by rfl) (hpl:(backTo pos (starEach es X.env)).any (·.1)=false:=by rfl):cg X (.Call (.Name x p) (e::es) [] pos) (cl g fs):=by
 intro pins s σ H Q I ⟨Z,O,E,hq⟩;refine wpAny_Call_Name_kw (fq I hg hm hv ?_ hn hdb)
 have h1:=dZ E hq;exact PyProof.Rows.callWith_type1 (cf (ha pos pins s σ H _ I h1) λus s1 ⟨vs,H1,I1,r1,ts,rs,s',E',q1⟩=>hc pins s1 σ H1 O ts vs us Q I1 (λp=>E'.fresh) rs r1 q1) he hpl
theorem Reps.one {K:PySem.W.Frag}{O:Ow}{H:Hp}{t:T}{vs:List V}(r:Reps K O H [t] vs):∃v,vs= [v]/\Rep K O H t v:=by
 obtain⟨v,ws,rfl,p,q⟩:=Reps.cons_iff.mp r;cases Reps.nil_iff.mp q;exact⟨v,rfl,p⟩
theorem Rep.sq {K:PySem.W.Frag}{O:Ow}{H:Hp}{t:T}{v:V}{l:List T}(r:Rep K O H t v)(h:t.items=some l):∃a vs,v= .ref a/\¬ O a/\Reps K O H l vs/\(SqL K H a vs\/SqT K H a vs):=by
 cases t with
 | tup m=>cases h;obtain⟨a,vs,e,n,q,z⟩:=Rep.tup_iff.mp r;exact⟨a,vs,e,n,z,.inr (SqT.of q)⟩
 | lst m=>cases h;obtain⟨a,vs,e,n,q,z⟩:=Rep.lst_iff.mp r;exact⟨a,vs,e,n,z,.inl (SqL.of q)⟩
 | scr m=>cases h;unfold Rep at r;obtain⟨a,e,n,q⟩:=r;exact⟨a,_,e,n,Reps.ints,.inl q⟩
 | _=>cases h
def bx:List T->Rs T
 | [.str x] =>if x.length<=sizeLine then .ok (.int x.length)else .bad
 | [x] =>match x.items with
  | some l=> .ok (.int l.length)
  | none=> .bad
 | _=> .bad
theorem bA:CallT X (.builtin "len") bx:=CallT.of (call_len_seq.or nH) λH O ts vs Q hf rs hp=>by
 unfold bx at hp
 split at hp
 ·obtain⟨v,rfl,r⟩:=rs.one
  split at hp
  ·rename_i h
   exact .inr ⟨_,by rw[Rep.str_iff.mp r],h,hp H (Same.refl H) _ (Rep.int_ _)⟩
  ·exact hp.elim
 ·obtain⟨v,rfl,r⟩:=rs.one
  split at hp
  ·rename_i l hl
   obtain⟨a,vs,rfl,n,z,q⟩:=r.sq hl;exact .inl ⟨a,vs,rfl,q,hp H (Same.refl H) _ (by rw[<-z.length];exact Rep.int_ _)⟩
  ·exact hp.elim
 ·exact hp.elim
def fW:List T->Rs T
 | [.tup l] => .ok (.tup l)
 | [.lst l] => .ok (.tup l)
 | _=> .bad
theorem jb:CallT X (.type "tuple") fW:=CallT.of lM λH O ts vs Q hf rs hp=>by
 unfold fW at hp
 split at hp
 ·obtain⟨v,rfl,r⟩:=rs.one
  obtain⟨a,ws,rfl,n,q,z⟩:=Rep.tup_iff.mp r;exact⟨a,ws,rfl,.inr ⟨SqT.of q,hp H (Same.refl H) _ (Rep.tup_iff.mpr ⟨a,ws,rfl,n,q,z⟩)⟩⟩
 ·obtain⟨v,rfl,r⟩:=rs.one
  obtain⟨a,ws,rfl,n,q,z⟩:=Rep.lst_iff.mp r;exact⟨a,ws,rfl,.inl ⟨SqL.of q,λl hl=>hp _ (aP hl _) _ (fo hl (hf l hl) z)⟩⟩
 ·exact hp.elim
def uQ:List T->Rs T
 | [.int i] => .ok (.int i)
 | [.bl k] => .ok (.int (if k then 1 else 0))
 | _=> .bad
theorem Aj:CallT X (.type "int") uQ:=CallT.of sE λH O ts vs Q hf rs hp=>by
 unfold uQ at hp
 split at hp
 ·obtain⟨v,rfl,r⟩:=rs.one
  exact .inl ⟨_,by rw[Rep.int_iff.mp r],hp H (Same.refl H) _ (Rep.int_ _)⟩
 ·obtain⟨v,rfl,r⟩:=rs.one
  exact .inr ⟨_,by rw[Rep.bl_iff.mp r],hp H (Same.refl H) _ (Rep.int_ _)⟩
 ·exact hp.elim
def lx:List T->Option (List Bool)
 | [] =>some []
 | .bl k::r=>(lx r).map (k:: ·)
 | _=>none
def j5:List T->Rs T
 | [.lst l] =>match lx l with
  | some ks=> .ok (.bl (ks.all λk=>k))
  | none=> .bad
 | _=> .bad
theorem lw {K:PySem.W.Frag}{O:Ow}{H:Hp}:∀{l:List T} {ks:List Bool} {vs:List V} {us:List Value},lx l=some ks->Reps K O H l vs->Vals vs us->us=ks.map Value.bool
 | [],ks,vs,us,e,r,v=>by cases e;cases Reps.nil_iff.mp r;cases v;rfl
 | t::l,ks,vs,us,e,r,v=>by
  obtain⟨w,ws,rfl,p,q⟩:=Reps.cons_iff.mp r
  cases t with
  | bl k=>
   unfold lx at e
   cases z:lx l with
   | none=>rw[z]at e;cases e
   | some ks'=>
    rw[z]at e;cases e
    cases v with
    | cons v1 v2=>
     cases Rep.bl_iff.mp p;cases v1
     rw[lw z q v2];rfl
  | _=>cases e
theorem jv (hc:X.calm=true):CallT X (.builtin "all") j5:=by
 intro pins s σ H O ts vs us Q I hf rs rv hp;unfold j5 at hp
 split at hp
 ·obtain⟨v,rfl,r⟩:=rs.one
  split at hp
  ·rename_i ks hk
   obtain⟨a,ws,rfl,n,q,z⟩:=Rep.lst_iff.mp r;obtain⟨u,rfl,ru⟩:=iH rv;cases ru;obtain⟨its,r',pl,hz⟩:=I.list (SqL.of q)
   have hits:=lw hk z r';refine call_all_walk (wpAny_pyIter_list pl.isList ?_)
   have hne:a≠s.heap.objs.size:=λe=>by
    obtain⟨o,ho,_⟩:=pl.isList;rw[e]at ho;exact absurd (Heap.lt_size ho) (Nat.lt_irrefl _)
   refine⟨s.heap.objs.size,_,_,_,_,_,λi=>(ks[i]?).getD true,rfl,Walks.list (A:=X.A.in1) (I.ok.hd hc) s.heap.objs.size a hne its.toArray,⟨⟨_,Heap.get?_push_size _ rfl,rfl,rfl⟩,?_⟩,?_,?_⟩
   ·obtain⟨o,ho,hh⟩:=pl.isList
    exact⟨o,Heap.get?_push_of_some _ ho,hh⟩
   ·intro i v s' Q' E' hP hQ'
    subst hits
    dsimp only at hQ'
    have hP':(ks.map Value.bool)[i]? =some v:=by simpa using hP
    rw[List.getElem?_map]at hP'
    cases e:ks[i]? with
    | none=>rw[e]at hP';cases hP'
    | some k=>
     rw[e]at hP' hQ';cases hP';exact wpAny_truthy_bool hQ'
   ·intro h' tk hk'
    have hlen:its.toArray.size=ks.length:=by rw[hits];simp
    have e:((List.range its.toArray.size).all λi=>(ks[i]?).getD true)=(ks.all λk=>k):=by
     rw[hlen];rw[Bool.eq_iff_iff,List.all_eq_true,List.all_eq_true]
     constructor
     ·intro h x hx
      obtain⟨i,hi,rfl⟩:=List.getElem_of_mem hx
      have:=h i (List.mem_range.mpr hi)
      simpa [hi]using this
     ·intro h i hi
      have hi':=List.mem_range.mp hi
      have:=h ks[i] (List.getElem_mem hi')
      simpa [hi']using this
    rw[e]
    have I1:Inv X pins σ H { s with heap:=s.heap.push { cls:=.type "list_iterator",data:=.fields #[.ref a,.int 0 0] } }:=I.kept (t':=s.toks) λb o e=>Heap.get?_push_of_some _ e
    have I2:Inv X pins σ H { s with heap:=h',toks:=tk }:=by
     have:=I1.turned (h':=h') (t':=tk) (it:=s.heap.objs.size) (λb o hb e=>hk' b o (by simpa using hb) e) (I.hok.fresh (Nat.le_refl _))
      (Nat.ne_of_gt I.lt) (.inr I.sz) (λx c e z=> ?_) (λp hp z=> ?_)
     ·exact this
     ·obtain⟨v,q⟩:=I.cell x c e
      exact absurd (Nat.lt_of_lt_of_le q.lt (Nat.le_of_eq z.symm)) (Nat.lt_irrefl _)
     ·exact absurd (Nat.lt_of_lt_of_le (Heap.lt_size (I.pin p hp).1) (Nat.le_of_eq z.symm)) (Nat.lt_irrefl _)
    exact⟨.bl _,H,I2,rfl,hp H (Same.refl H) _ (Rep.bl_ _)⟩
  ·exact hp.elim
 ·exact hp.elim
end
def T.ty:T->Option String
 | .non=>some "NoneType"
 | .bl _=>some "bool"
 | .int _=>some "int"
 | .str _=>some "str"
 | .tup _=>some "tuple"
 | .lst _=>some "list"
 | .scr _=>none
 | .dct _ _=>none
def qe (i b t l s:Bool)(Ty:String):Option Bool:=match Ty with
 | "int" =>some i | "bool" =>some b | "tuple" =>some t | "list" =>some l | "str" =>some s
 | _=>none
def qV (n Ty:String):Option Bool:=match n with
 | "NoneType" =>qe false false false false false Ty
 | "bool" =>qe true true false false false Ty
 | "int" =>qe true false false false false Ty
 | "str" =>qe false false false false true Ty
 | "tuple" =>qe false false true false false Ty
 | "list" =>qe false false false true false Ty
 | _=>none
theorem sg (K:PySem.W.Frag){n Ty:String}{b:Bool}(h:qV n Ty=some b):PySem.W.kitOne K (.type n) (.type Ty)=some b:=by
 unfold qV at h
 split at h <;> first | (cases h;done) | (unfold qe at h;split at h <;> first | (cases h;done) | (cases h;kernel_rfl))
def uP (Ty:String)(t:T):Rs T:=match t.ty with
 | some n=>match qV n Ty with
  | some b=> .ok (.bl b)
  | none=> .bad
 | none=> .bad
theorem Rep.tyOf {K:PySem.W.Frag}{O:Ow}{H:Hp}{t:T}{v:V}{n:String}(r:Rep K O H t v)(h:t.ty=some n):jz K H v (.type n):=by
 cases t with
 | non=>cases h;cases Rep.non_iff.mp r;exact .non
 | bl b=>cases h;cases Rep.bl_iff.mp r;exact .bl b
 | int b=>cases h;cases Rep.int_iff.mp r;exact .int b
 | str b=>cases h;cases Rep.str_iff.mp r;exact .str b
 | tup l=>cases h;obtain⟨a,vs,rfl,_,q,_⟩:=Rep.tup_iff.mp r;exact .tup q
 | lst l=>cases h;obtain⟨a,vs,rfl,_,q,_⟩:=Rep.lst_iff.mp r;exact .lst q
 | scr l=>cases h
 | dct _ _=>cases h
section
variable {X:Cx}{a b c e:Expr}{es:List Expr}{fa fb fc:En->Rs T}{fs:En->Rs (List T)}{pos p p2:Pos}{x:Str}
theorem j4:bootBuiltins "isinstance" =some (.builtin "isinstance"):=by decide+kernel
theorem A6 {tn:Str}{Ty:String}(hm:X.mg "isinstance" =none)(hmt:X.mg tn=none)(hv:bootBuiltins tn=some (.type Ty))(ha:cg X a fa)(hg:Gl X "isinstance":=by rfl)(hgt:Gl X tn:=by rfl)
  (hn:tn≠ "__name__":=by decide) (hd:(tn == ("__debug__" : Str))=false:=by decide)
  (he:starEach [a,.Name tn p2] X.env=(false,eval a X.env)::starEach [.Name tn p2] X.env:=by rfl) (hpl:(backTo pos (starEach [.Name tn p2] X.env)).any (·.1)=false:=by rfl)
  (hs:starEach [.Name tn p2] X.env=(false,eval (.Name tn p2) X.env)::starEach [] X.env:=by rfl) :
  cg X (.Call (.Name "isinstance" p) [a,.Name tn p2] [] pos) (o1 (uP Ty) fa):=by
 intro pins s σ H Q I ⟨Z,O,E,hq⟩;refine wpAny_Call_Name_kw (fq I hg hm j4 ?_ (by decide) (by decide))
 have hA:PA X [a,.Name tn p2] (sZ (tP X fa) (sZ (tC (.ty Ty)) AE)):=gV ha (gV (wU (v:=.ty Ty) hgt hmt hv rfl hn hd) kJ hs) he;obtain⟨Z1,O1,E1,h1⟩:=aS E hq;refine PyProof.Rows.callWith_builtin1 (cf (hA pos pins s σ H (λvs H'=> ∃v t,vs= [v,.ty Ty]/\Rep X.K O H' t v/\Post X H' (uP Ty t) (λt H'=> ∀v,Rep X.K O H' t v->Q v H')) I ?_) λus s1 ⟨vs,H1,I1,r1,v,t,e1,rt,q⟩=> ?_) he hpl
 ·refine⟨Z1,O1,E1,Post.mono h1 λts H1 s1 q vs r=> ?_⟩
  obtain⟨t',r',s',E',q'⟩:=q vs r;exact⟨vs,t',rfl,r',q'⟩
 ·subst e1
  obtain⟨u,w',rfl,ru,rw'⟩:=xV r1;cases rw';unfold uP at q
  split at q
  ·rename_i n hn'
   split at q
   ·rename_i bb hb
    exact sf I1 ru (rt.tyOf hn') (sg _ hb) λtk=>⟨.bl bb,H1,I1.tok _,rfl,q H1 (Same.refl H1) _ (Rep.bl_ _)⟩
   ·exact q.elim
  ·exact q.elim
def spP (K:PySem.W.Frag)(n:Nat)(g:List T->Rs T):Sp:=λvs H Q _=> ∃ts O,Reps K O H ts vs/\(∀a,O a->Mtb H a)/\ts.length=n ∧
 match g ts with
 | .ok t=> ∀v H',Same H H'->Rep K O H' t v->Q v H'
 | _=>False
def RzC (P:Program)(w:World)(mg:Str->Option Value)(outer:List Env)(H:Hp)(s:Shared)(c:Str)(ev:Value)(s':Shared):Prop:=
 ∃e T C H',ev= .ref e/\mg c=some (.ref C)/\s'.os=s.os/\AllBare s'.gens/\Un (nB outer) [] H H' s.heap s'.heap/\HOk P w H' s'.heap/\Same H H'/\H' e=none/\s.heap.get? e=none/\Co s'.heap C e (some T)/\H' T=none/\s.heap.get? T=none
def FnX (P:Program)(w:World)(K:PySem.W.Frag)(mg:Str->Option Value)(base:Heap)(k:Nat)(f:Addr)(fd:FuncData)(ps:List Str)(n:Nat)(g:List T->Rs T):Prop:=
 ∀(A:Around) (outer:List Env) (s:Shared) (H:Hp) (args:Args) (us:List Value) (vs:List V) (O:Ow) (ts:List T) (c:Str) (R:Result->Shared->Prop),Room k A->vE P w K mg base A outer s H->BindsTo s fd args (ps.zip us)->Vals vs us →
  Reps K O H ts vs->(∀a,O a->Mtb H a)->ts.length=n->g ts= .err c->(∀ev s',RzC P w mg outer H s c ev s'->R (.error ev) s')->codeAny (model P w) A (.call (.ref f) args) R s
structure Aq (P:Program)(w:World)(K:PySem.W.Frag)(mg:Str->Option Value)(base:Heap)(k:Nat)(f:Addr)(fd:FuncData)(ps:List Str)(n:Nat)(g:List T->Rs T):Prop where
 h:nQ P w K mg base CX0 k f fd ps (spP K n g)
 x:FnX P w K mg base k f fd ps n g
theorem uf {P:Program}{w:World}{H:Hp}{h:Heap}{a:Addr}{o:HO}(x:ObjOk P w H h a o):∃u,h.get? a=some u:=by
 cases o with
 | lst xs=>obtain⟨_,_,_,_,e⟩:=x;exact⟨_,e⟩
 | tup xs=>obtain⟨_,_,_,ob,e,_⟩:=x;exact⟨_,e⟩
 | dK kvs=>obtain⟨_,_,_,_,o,_,_,e,_⟩:=x;exact⟨_,e⟩
 | dT kvs=>obtain⟨_,_,_,_,o,_,_,e,_⟩:=x;exact⟨_,e⟩
 | set S n=>obtain⟨o,_,_,_,e,_⟩:=x;exact⟨_,e⟩
 | ins C dx fs=>obtain⟨_,_,_,e,_⟩:=x;exact⟨_,e⟩
 | own y=>obtain⟨_,e⟩:=x;exact⟨_,e⟩
 | xd fs=>obtain⟨_,⟨_,_,_,e,_⟩,_⟩:=x;exact⟨_,e⟩
 | rng lo hi=>obtain⟨_,_,_,e⟩:=x;exact⟨_,e⟩
 | frz ob u=>obtain⟨e,_⟩:=x;exact⟨_,e⟩
 | tbl ps=>exact⟨_,(show h.get? a=some _ from x)⟩
 | met f y=>exact⟨_,(show h.get? a=some _ from x)⟩
 | ext φ=>obtain⟨_,⟨_,e⟩,_⟩:=x;exact⟨_,e⟩
theorem oR {X:Cx}{pins:List (Addr×Obj)}{σ:L2.St}{H:Hp}{s:Shared}(I:Inv X pins σ H s){e:Addr}(n:s.heap.get? e=none):H e=none:=by
 cases z:H e with
 | none=>rfl
 | some o=>
  obtain⟨o',ho'⟩:=uf (I.hok e o z);rw[n]at ho';cases ho'
theorem nq {X:Cx}{pins:List (Addr×Obj)}{σ:L2.St}{H:Hp}{s:Shared}(I:Inv X pins σ H s)(hex:X.ex= []){e:Addr}(n:s.heap.get? e=none):X.s₀.heap.get? e=none:=by
 cases z:X.s₀.heap.get? e with
 | none=>rfl
 | some o=>
  obtain⟨o',ho'⟩:=I.base.there e o z (by rw[hex];simp)
  rw[n]at ho';cases ho'
theorem y6 {n k:Nat}{f:Addr}{fd:FuncData}{ps:List Str}{g:List T->Rs T}(F:Aq X.prog X.w X.K X.mg X.base k f fd ps n g)(hr:Room k X.A)(hm:X.mg x=some (.ref f))(hk:PySem.W.keepIn X.K (.ref f)=true)(hb:Binds X.K fd ps [])(hps:ps.length=n)
  (hl:∀Z ts,fs Z= .ok ts->ts.length=n) (ha:nP X (e::es) fs) (hg:Gl X x:=by rfl) (hdb:(x == ("__debug__" : Str))=false:=by decide) (he:starEach (e::es) X.env=(false,eval e X.env)::starEach es X.env:=by rfl) (hpl:(backTo pos (starEach es X.env)).any (·.1)=false:=by rfl) :
  cg X (.Call (.Name x p) (e::es) [] pos) (cl g fs):=by
 intro pins s σ H Q I ⟨Z,O,E,hq⟩
 have hq':Post X H (fs Z >>= g) λt H'=> ∀v,Rep X.K O H' t v->Q v H':=hq
 cases q:fs Z with
 | bad=>rw[q]at hq';exact hq'.elim
 | err c=>
  rw[q]at hq';refine qC (E:=E0) F.h hr hg hm hk hb .nil x9 ha hdb he hpl pins s σ H Q I ⟨Z,O,E,?_⟩
  rw[q]
  exact hq'
 | ok ts=>
  rw[q]at hq'
  have hq2:Post X H (g ts) λt H'=> ∀v,Rep X.K O H' t v->Q v H':=hq'
  cases q2:g ts with
  | bad=>rw[q2]at hq2;exact hq2.elim
  | ok t=>
   rw[q2]at hq2;refine qC (E:=E0) F.h hr hg hm hk hb .nil x9 ha hdb he hpl pins s σ H Q I ⟨Z,O,E,?_⟩
   rw[q];intro H1 s1 vs rs;rw[List.append_nil];refine⟨ts,O,rs,(E.same s1).mtb,hl Z ts q,?_⟩
   rw[q2]
   exact λv H' s2 r=>hq2 H' (s1.trans s2) v r
  | err c=>
   rw[q2]at hq2;refine wpAny_Call_Name_kw (kh I hg hm ?_ hdb)
   refine PySem.W.callWith_K (h₀:=X.base) I.ok.mod.kin hk (cf (ha pos pins s σ H (λvs H'=>Same H H'/\Reps X.K O H' ts vs) I ⟨Z,O,E,?_⟩) (λus s1 ⟨vs,H1,I1,r,sm,rs⟩=>⟨I1.kIn,?_⟩)) he hpl
   ·rw[q];exact λH' sm vs rs=>⟨sm,rs⟩
   ·have hlen:us.length=ps.length:=by rw[<-r.length,<-rs.length,hl Z ts q,hps]
    have hb':=hb s1 us I1.kIn (by rw[List.append_nil];exact hlen)
    rw[List.append_nil]at hb';refine wpAny_call (codeAny_mono (F.x X.A X.stack s1 H1 ⟨us,[]⟩ us vs O ts c (λr s'=>match r with | .error ev=>X.xe ev s' | _=>False) hr I1.env0 hb' r rs (E.same sm).mtb (hl Z ts q) q2 λev s' w=> ?_) λr s' hq=> ?_)
    ·obtain⟨ea,T,C,H',rfl,hmc,ho,hbare,hun,hok,sm2,hea,heo,fl,hT,hTo⟩:=w
     have I2:Inv X pins σ H' s':=I1.call' ho hun hok hbare (λb z=>absurd z (by simp))
     exact hq2 pins _ _ ⟨ea,some T,C,σ,H',rfl,hmc,I2,λb o q _=>sm2 b o (sm b o q),hea,λhex=>nq I1 hex heo,fl,(λt zt=>by cases zt;exact⟨hT,λhex=>nq I1 hex hTo⟩),λpp hpp=>⟨λzz=>(by have:=(I1.pin pp hpp).1;rw[zz,heo]at this;cases this),λzz=>(by cases zz;have:=(I1.pin pp hpp).1;rw[hTo]at this;cases this)⟩⟩
    ·cases r with
     | error ev=>exact hq
     | ok fl=>exact hq.elim
def xW (X:Cx)(g:T->En->Rs En):TG:=λv σ H Q=> ∃Z O M t,EnvM X.K O M H Z σ/\Rep X.K O H t v/\match g t Z with
 | .ok Z'=> ∀σ',EnvM X.K O M H Z' σ'->Q σ' H
 | _=>False
abbrev yp (X:Cx)(tg:Expr)(g:T->En->Rs En):Prop:=PG X tg (xW X g)
def tPGs (X:Cx)(g:List T->En->Rs En):xM:=λvs σ H Q=> ∃Z O M ts,EnvM X.K O M H Z σ/\Reps X.K O H ts vs/\match g ts Z with
 | .ok Z'=> ∀σ',EnvM X.K O M H Z' σ'->Q σ' H
 | _=>False
abbrev vC (X:Cx)(tg:List Expr)(g:List T->En->Rs En):Prop:=PGs X tg (tPGs X g)
theorem PG.imp {X:Cx}{e:Expr}{t t':TG}(h:PG X e t)(w:∀v σ H Q,t' v σ H Q->t v σ H Q):PG X e t':=λpins s σ H v u Q I r q=>h pins s σ H v u Q I r (w v σ H Q q)
theorem PGs.imp {X:Cx}{e:List Expr}{t t':xM}(h:PGs X e t)(w:∀v σ H Q,t' v σ H Q->t v σ H Q):PGs X e t':=λpins s σ H v u Q I r q=>h pins s σ H v u Q I r (w v σ H Q q)
def gN (i:Nat)(t:T)(Z:En):Rs En:=if i<Z.length then .ok (Z.set i (.va t))else .bad
theorem EnvM.set {K:PySem.W.Frag}{O:Ow}{M:Mn}{H:Hp}{Z:En}{σ:L2.St}{i:Nat}{t:T}{v:V}(E:EnvM K O M H Z σ)(hi:i<Z.length)(r:Rep K O H t v):EnvM K O M H (Z.set i (.va t)) (σ.set i (some v)) where
 len:=by rw[List.length_set,List.length_set];exact E.len
 val:=λj u e=>by
  by_cases hj:i=j
  ·subst hj
   rw[List.getElem?_set_self hi]at e
   cases e;exact⟨v,List.getElem?_set_self (by rw[<-E.len];exact hi),r⟩
  ·rw[List.getElem?_set_ne hj]at e
   obtain⟨w,e1,e2⟩:=E.val j u e;exact⟨w,by rw[List.getElem?_set_ne hj];exact e1,e2⟩
 own:=λj o e=>by
  by_cases hj:i=j
  ·subst hj
   rw[List.getElem?_set_self hi]at e
   cases e
  ·rw[List.getElem?_set_ne hj]at e
   obtain⟨w,e1,e2⟩:=E.own j o e;exact⟨w,by rw[List.getElem?_set_ne hj];exact e1,e2⟩
 sub:=E.sub
 dis:=E.dis
 trk:=E.trk
theorem ww (i:Nat)(hN:X.N.Nodup)(hi:X.N[i]? =some x:=by rfl)(hx:Loc X.env.scope x:=by first | exact Or.inl rfl | exact Or.inr rfl)(hf:X.fn x=true\/X.env.scope.names.lookup x=some .local:=by first | exact .inl rfl | exact .inr rfl | assumption):yp X (.Name x pos) (gN i):=
 PG.imp (wQ hN hi hx hf) λv σ H Q hh_=>by
  obtain⟨Z,O,M,t,E,r,h⟩:=hh_;unfold gN at h
  split at h
  ·rename_i Z' e
   split at e
   ·rename_i hl
    cases e;exact h _ (E.set hl r)
   ·cases e
  ·exact h.elim
def uU (ts:List T)(Z:En):Rs En:=match ts with
 | [] => .ok Z
 | _=> .bad
def nA (g:T->En->Rs En)(gs:List T->En->Rs En)(ts:List T)(Z:En):Rs En:=match ts with
 | t::r=>do
  let Z1 <-g t Z
  gs r Z1
 | [] => .bad
theorem wv:vC X [] uU:=PGs.imp wP λvs σ H Q hh_=>by
 obtain⟨Z,O,M,ts,E,r,h⟩:=hh_;unfold uU at h
 cases ts with
 | nil=>exact⟨Reps.nil_iff.mp r,h σ E⟩
 | cons _ _=>exact h.elim
theorem tI {g:T->En->Rs En}{gs:List T->En->Rs En}(h1:yp X e g)(h2:vC X es gs)
  (hs:(assignEach (e::es) X.env).map (·.2)=assign e X.env::(assignEach es X.env).map (·.2):=by rfl):vC X (e::es) (nA g gs):=
 PGs.imp (tT h1 h2 hs) λvs σ H Q hh_=>by
  obtain⟨Z,O,M,ts,E,r,h⟩:=hh_
  cases ts with
  | nil=>exact h.elim
  | cons t ts=>
   obtain⟨v,ws,rfl,p,q⟩:=Reps.cons_iff.mp r;refine⟨v,ws,rfl,Z,O,M,t,E,p,?_⟩
   unfold nA at h
   cases e1:g t Z with
   | bad=>simp[e1]at h
   | err c=>simp[e1]at h
   | ok Z1=>
    intro σ1 E1;refine⟨Z1,O,M,ts,E1,q,?_⟩
    simp only[e1,aC]at h
    cases e2:gs ts Z1 with
    | bad=>simp[e2]at h
    | err c=>simp[e2]at h
    | ok Z2=>
     simp only[e2]at h;exact λσ2 E2=>h σ2 E2
def gT (n:Nat)(gs:List T->En->Rs En)(t:T)(Z:En):Rs En:=match t with
 | .tup l=>if l.length=n then gs l Z else .bad
 | _=> .bad
theorem yX {k n:Nat}{gs:List T->En->Rs En}(hc:X.calm=true)(h:vC X es gs)(hn:(assignEach es X.env).length=n:=by rfl)(hst:(assignEach es X.env).findIdx? (·.1)=none:=by rfl):yp X (.Tuple es k pos) (gT n gs):=
 PG.imp (zg hc h hn hst) λv σ H Q hh_=>by
  obtain⟨Z,O,M,t,E,r,h⟩:=hh_;unfold gT at h
  cases t with
  | tup l=>
   obtain⟨a,vs,rfl,n',q,z⟩:=Rep.tup_iff.mp r
   by_cases hl:l.length=n
   ·simp only[if_pos hl]at h
    exact⟨a,vs,rfl,SqT.of q,by rw[<-z.length];exact hl,Z,O,M,l,E,z,h⟩
   ·simp only[if_neg hl]at h
  | _=>exact h.elim
theorem SqL.nn {K:PySem.W.Frag}{H:Hp}{a:Addr}{vs:List V}(q:SqL K H a vs):¬ Nw K H a:=λ⟨h1,h2⟩=>by
 rcases q with(q | ⟨o,q⟩) | ⟨o,_,_,q,_⟩
 ·rw[h1]at q;cases q
 ·rw[h1]at q;cases q
 ·rw[h2]at q;cases q
mutual
theorem Rep.more {K:PySem.W.Frag}{O O':Ow}{H:Hp}(sub:∀a,O' a->O a\/Nw K H a):∀{t:T} {v:V},Rep K O H t v->Rep K O' H t v
 | .non,_,r=>by unfold Rep at r ⊢;exact r
 | .bl _,_,r=>by unfold Rep at r ⊢;exact r
 | .int _,_,r=>by unfold Rep at r ⊢;exact r
 | .str _,_,r=>by unfold Rep at r ⊢;exact r
 | .tup l,_,r=>by
  unfold Rep at r ⊢;obtain⟨a,vs,e,n,q,z⟩:=r
  exact⟨a,vs,e,λp=>(sub a p).elim n λw=>(by rw[w.1]at q;cases q),q,Reps.more sub z⟩
 | .lst l,_,r=>by
  unfold Rep at r ⊢;obtain⟨a,vs,e,n,q,z⟩:=r
  exact⟨a,vs,e,λp=>(sub a p).elim n λw=>(by rw[w.1]at q;cases q),q,Reps.more sub z⟩
 | .scr l,_,r=>by
  unfold Rep at r ⊢;obtain⟨a,e,n,q⟩:=r
  exact⟨a,e,λp=>(sub a p).elim n λw=>Tr.SqL.nn q w,q⟩
 | .dct ks ts,_,r=>by
  unfold Rep at r ⊢;obtain⟨a,kvs,e,n,q,k,z⟩:=r;exact⟨a,kvs,e,λp=>(sub a p).elim n λw=>(by rw[w.1]at q;cases q),q,k,Reps.more sub z⟩
theorem Reps.more {K:PySem.W.Frag}{O O':Ow}{H:Hp}(sub:∀a,O' a->O a\/Nw K H a):∀{l:List T} {vs:List V},Reps K O H l vs->Reps K O' H l vs
 | [],_,r=>by unfold Reps at r ⊢;exact r
 | t::l,_,r=>by
  unfold Reps at r ⊢;obtain⟨v,ws,e,p,q⟩:=r;exact⟨v,ws,e,Rep.more sub p,Reps.more sub q⟩
end
theorem Rep.move {K:PySem.W.Frag}{O O' P:Ow}{H H':Hp}{t:T}{v:V}(hP:∀a,P a->O a\/Nw K H a)(hO:∀a,O' a->O a\/Nw K H a)(h:SameO P H H')(r:Rep K O H t v):Rep K O' H' t v:=
 Rep.less (O:=λa=>O' a\/P a) (λ_ z=> .inl z) (Rep.keep h (λ_ z=> .inr z) (Rep.more (λa z=>z.elim (hO a) (hP a)) r))
theorem Reps.move {K:PySem.W.Frag}{O O' P:Ow}{H H':Hp}{t:List T}{v:List V}(hP:∀a,P a->O a\/Nw K H a)(hO:∀a,O' a->O a\/Nw K H a)(h:SameO P H H')(r:Reps K O H t v):Reps K O' H' t v:=
 Reps.less (O:=λa=>O' a\/P a) (λ_ z=> .inl z) (Reps.keep h (λ_ z=> .inr z) (Reps.more (λa z=>z.elim (hO a) (hP a)) r))
def ItT (K:PySem.W.Frag)(O:Ow)(H:Hp)(ts:List T)(J:It):Prop:=∀(P O':Ow),(∀a,P a->O a\/Nw K H a)->(∀a,O' a->O a\/Nw K H a)->∀(i:Nat) (Hc:Hp),SameO P H Hc->(∀a,O' a->∃o,Hc a=some o) →
 (ts.length<=i->J.stop i Hc)/\(∀t,ts[i]? =some t->J.go i Hc/\∀x Hc',J.yld i Hc x Hc'->Same Hc Hc'/\Rep K O' Hc' t x)
def tPI (X:Cx)(f:En->Rs (List T)):TI:=λσ H R=> ∃Z O,EnvO X.K O H Z σ/\Post X H (f Z) λts H'=> ∀J,ItT X.K O H' ts J->R J H'
abbrev xO (X:Cx)(tg iter:Expr)(f:En->Rs (List T)):Prop:=PI X tg iter (tPI X f)
theorem PI.imp {tg iter:Expr}{t t':TI}(h:PI X tg iter t)(w:∀σ H R,t' σ H R->t σ H R):PI X tg iter t':=λpins s σ H R I q=>h pins s σ H R I (w σ H R q)
def iL (f:En->Rs T)(Z:En):Rs (List T):=do
 let x <-f Z
 match x with
 | .lst l=> .ok l
 | _=> .bad
def iT (f:En->Rs T)(Z:En):Rs (List T):=do
 let x <-f Z
 match x with
 | .tup l=> .ok l
 | _=> .bad
theorem qz {tg:Expr}(ha:cg X a fa):xO X tg a (iL fa):=PI.imp (wN ha) λσ H R hh_=>by
 obtain⟨Z,O,E,h⟩:=hh_;obtain⟨Z1,O1,E1,h1⟩:=aS E h;refine⟨Z1,O1,E1,Post.mono h1 λts H1 s1 q vs r=> ?_⟩
 obtain⟨t',r',s',E',q'⟩:=q vs r
 split at q'
 ·rename_i l
  obtain⟨a,ws,rfl,n,q,z⟩:=Rep.lst_iff.mp r';refine⟨a,rfl,⟨ws,SqL.of q⟩,q' H1 (Same.refl H1) _ λP O' hP hO i Hc hs ht=> ?_⟩
  have hnP:¬ P a:=λz=>(hP a z).elim n λw=>by rw[w.1]at q;cases q
  refine⟨λhi=>⟨ws,SqL.of (hs _ _ q hnP),by rw[<-z.length];exact hi⟩,λt ht'=> ?_⟩
  obtain⟨v,e1,e2⟩:=z.get ht';refine⟨⟨ws,v,SqL.of (hs _ _ q hnP),e1⟩,λx Hc' y=> ?_⟩
  obtain⟨e,y⟩:=y;subst e
  have:=y ws (SqL.of (hs _ _ q hnP));rw[e1]at this;cases this;exact⟨Same.refl _,e2.move hP hO hs⟩
 ·exact q'.elim
theorem yV {tg:Expr}(ha:cg X a fa):xO X tg a (iT fa):=PI.imp (zf ha) λσ H R hh_=>by
 obtain⟨Z,O,E,h⟩:=hh_;obtain⟨Z1,O1,E1,h1⟩:=aS E h;refine⟨Z1,O1,E1,Post.mono h1 λts H1 s1 q vs r=> ?_⟩
 obtain⟨t',r',s',E',q'⟩:=q vs r
 split at q'
 ·rename_i l
  obtain⟨a,ws,rfl,n,q,z⟩:=Rep.tup_iff.mp r';refine⟨a,rfl,⟨ws,SqT.of q⟩,q' H1 (Same.refl H1) _ λP O' hP hO i Hc hs ht=> ?_⟩
  have hnP:¬ P a:=λz=>(hP a z).elim n λw=>by rw[w.1]at q;cases q
  refine⟨λhi=>⟨ws,SqT.of (hs _ _ q hnP),by rw[<-z.length];exact hi⟩,λt ht'=> ?_⟩
  obtain⟨v,e1,e2⟩:=z.get ht';refine⟨⟨ws,v,SqT.of (hs _ _ q hnP),e1⟩,λx Hc' y=> ?_⟩
  obtain⟨e,y⟩:=y;subst e
  have:=y ws (SqT.of (hs _ _ q hnP));rw[e1]at this;cases this;exact⟨Same.refl _,e2.move hP hO hs⟩
 ·exact q'.elim
def rng (lo hi:Int):List T:=(List.range (hi - lo).toNat).map λ(k:Nat)=>T.int (lo+(k:Int))
def o7 (i:Int):Bool:=decide (-(2 ^ 62)<=i)&&decide (i<2 ^ 62)
def iR (f:En->Rs (List T))(Z:En):Rs (List T):=do
 let x <-f Z
 match x with
 | [.int j] =>if o7 j then .ok (rng 0 j)else .bad
 | [.int i,.int j] =>if o7 i&&o7 j then .ok (rng i j)else .bad
 | _=> .bad
theorem g9 {i:Int}(h:o7 i=true) : -(2 ^ 62)<=i/\i<2 ^ 62:=by
 unfold o7 at h;rw[Bool.and_eq_true]at h;exact⟨of_decide_eq_true h.1,of_decide_eq_true h.2⟩
theorem qU {K:PySem.W.Frag}{O:Ow}{H:Hp}(lo hi:Int):ItT K O H (rng lo hi) (Itr lo (hi - lo).toNat):=λP O' hP hO i Hc hs ht=>by
 refine⟨λh=> ?_,λt h=> ?_⟩
 ·show(hi - lo).toNat<=i
  unfold rng at h;rw[List.length_map,List.length_range]at h;exact h
 ·unfold rng at h
  rw[List.getElem?_map]at h
  by_cases hi':i<(hi - lo).toNat
  ·rw[List.getElem?_range hi']at h
   cases h;refine⟨hi',λx Hc' y=> ?_⟩
   obtain⟨e,y⟩:=y;subst e y;exact⟨Same.refl _,Rep.int_ _⟩
  ·rw[List.getElem?_eq_none (by simpa using hi')]at h
   cases h
theorem rN {tg:Expr}(hm:X.mg "range" =none)(ha:nP X [a] fs)(hg:Gl X "range":=by rfl)(hs:starEach [a] X.env= [(false,eval a X.env)]:=by rfl):xO X tg (.Call (.Name "range" p) [a] [] pos) (iR fs):=by
 intro pins s σ H R I ⟨Z,O,E,h⟩
 have h1:=dZ E h;refine Call_ (fq I hg hm boot_range (PyProof.Rows.callWith_type1 (cf (ha pos pins s σ H _ I h1) λus s1 ⟨vs,H1,I1,r1,ts,rs,s',E',q1⟩=> ?_) hs rfl))
 split at q1
 ·obtain⟨v,rfl,r⟩:=rs.one
  split at q1
  ·rename_i j hj
   obtain⟨b1,b2⟩:=g9 hj;cases Rep.int_iff.mp r
   cases r1 with
   | cons r rr=>
    cases rr;obtain⟨t,rfl⟩:=r;exact call_range_1 (oC I1 (by omega) (by omega) b1 b2 (q1 H1 (Same.refl H1) _ (qU 0 j)))
  ·exact q1.elim
 ·obtain⟨v,ws,rfl,p1,q⟩:=Reps.cons_iff.mp rs
  obtain⟨v2,rfl,r⟩:=q.one
  split at q1
  ·rename_i i j hj
   rw[Bool.and_eq_true]at hj;obtain⟨b1,b2⟩:=g9 hj.1;obtain⟨b3,b4⟩:=g9 hj.2;cases Rep.int_iff.mp p1;cases Rep.int_iff.mp r
   cases r1 with
   | cons r rr=>
    cases rr with
    | cons r' rr=>
     cases rr;obtain⟨t,rfl⟩:=r;obtain⟨t',rfl⟩:=r';exact call_range_2 (oC I1 b1 b2 b3 b4 (q1 H1 (Same.refl H1) _ (qU i j)))
  ·exact q1.elim
 ·exact q1.elim
end
section
variable {X:Cx}{a b c e:Expr}{es:List Expr}{fa fb fc:En->Rs T}{fs:En->Rs (List T)}{pos p p2:Pos}{x:Str}
def cw (src:List (Option Nat))(Z:En):En:=src.map λo=>match o with
 | some i=>match Z[i]? with
  | some (.va t)=> .va t
  | _=> .em
 | none=> .em
def cL (tgt:T->En->Rs En)(fc:En->Rs Bool)(fe:En->Rs T):List T->En->Rs (List T)
 | [],_=> .ok []
 | t::r,Z=>do
  let Z1 <-tgt t Z
  let k <-fc Z1
  if k then do
   let y <-fe Z1
   let ys <-cL tgt fc fe r Z1
   .ok (y::ys)
  else cL tgt fc fe r Z1
def eU (fi:En->Rs (List T))(src:List (Option Nat))(tgt:T->En->Rs En)(fc:En->Rs Bool)(fe:En->Rs T)(Z:En):Rs T:=do
 let ts <-fi Z
 if ts.length<=sizeLine then match cL tgt fc fe ts (cw src Z)with
  | .ok ys=> .ok (.lst ys)
  | _=> .bad
 else .bad
def bT (_:En):Rs Bool:=.ok true
def tP0 (K:PySem.W.Frag)(f:En->Rs T):TE:=λσ H Q=> ∃Z O,EnvO K O H Z σ/\match f Z with
 | .ok t=> ∀H',Same H H'->∀v,Rep K O H' t v->Q v H'
 | _=>False
def tPT0 (K:PySem.W.Frag)(f:En->Rs Bool):TT:=λσ H Q=> ∃Z O,EnvO K O H Z σ/\match f Z with
 | .ok t=> ∀H',Same H H'->Q t H'
 | _=>False
theorem tP0.up {f:En->Rs T}{σ:L2.St}{H:Hp}{Q:VK}(h:tP0 X.K f σ H Q):tP X f σ H Q:=by
 obtain⟨Z,O,E,h⟩:=h;refine⟨Z,O,E,?_⟩
 cases q:f Z with
 | ok t=>rw[q]at h;exact h
 | err c=>rw[q]at h;exact h.elim
 | bad=>rw[q]at h;exact h.elim
theorem tPT0.up {f:En->Rs Bool}{σ:L2.St}{H:Hp}{Q:Bool->Hp->Prop}(h:tPT0 X.K f σ H Q):sY X f σ H Q:=by
 obtain⟨Z,O,E,h⟩:=h;refine⟨Z,O,E,?_⟩
 cases q:f Z with
 | ok t=>rw[q]at h;exact h
 | err c=>rw[q]at h;exact h.elim
 | bad=>rw[q]at h;exact h.elim
theorem wt:sM X [] (sY X bT):=λpins s σ H Q I ⟨Z,O,E,h⟩=>wM pins s σ H Q I (h H (Same.refl H))
theorem wr {f:En->Rs Bool}(h:pE X c f):sM X [c] (sY X f):=wL h
abbrev noM:Mn:=λ_ _=>False
theorem r6 {src:List (Option Nat)}{Z:En}{j:Nat}{o:OT}(e:(cw src Z)[j]? =some (.ow o)):False:=by
 unfold cw at e;rw[List.getElem?_map]at e
 cases q:src[j]? with
 | none=>rw[q]at e;cases e
 | some o'=>
  rw[q]at e
  cases o' with
  | none=>cases e
  | some i=>
   have e':(match Z[i]? with | some (Sl.va t)=>Sl.va t | _=>Sl.em)=Sl.ow o:=Option.some.inj e
   split at e' <;> cases e'
theorem uC {K:PySem.W.Frag}{O:Ow}{H:Hp}{Z:En}{σ:L2.St}(E:EnvO K O H Z σ)(src:List (Option Nat)):EnvM K O noM H (cw src Z) (eR src σ) where
 len:=by unfold cw eR;rw[List.length_map,List.length_map]
 val:=λj t e=>by
  unfold cw at e;unfold eR;rw[List.getElem?_map]at e ⊢
  cases q:src[j]? with
  | none=>rw[q]at e;cases e
  | some o=>
   rw[q]at e
   cases o with
   | none=>cases e
   | some i=>
    have e':(match Z[i]? with | some (Sl.va t)=>Sl.va t | _=>Sl.em)=Sl.va t:=Option.some.inj e
    cases q2:Z[i]? with
    | none=>rw[q2]at e';cases e'
    | some z=>
     rw[q2]at e'
     cases z with
     | em=>cases e'
     | ow l=>cases e'
     | va t'=>
      cases e';obtain⟨v,e1,e2⟩:=E.val i _ q2;exact⟨v,by simp[e1],e2⟩
 own:=λj o e=>(r6 e).elim
 sub:=λ_ _ z=>z.elim
 dis:=λ_ _ _ z=>z.elim
 trk:=E.mtb
theorem ORep.no {K:PySem.W.Frag}{O:Ow}{H:Hp}{o:OT}{v:V}(r:ORep K O sL H o v):False:=by
 cases o with
 | lst l=>obtain⟨a,_,_,e,_⟩:=r;exact(e a).mpr rfl
 | dct ks ts=>obtain⟨a,_,_,e,_⟩:=r;exact(e a).mpr rfl
 | dd ks rows=>obtain⟨a,_,_,_,e,_⟩:=r;exact(e a).mpr (.inl rfl)
theorem EnvM.move {K:PySem.W.Frag}{O O' P:Ow}{H H':Hp}{Z:En}{σ:L2.St}(E:EnvM K O noM H Z σ)(hP:∀a,P a->O a\/Nw K H a)(hO:∀a,O' a->O a\/Nw K H a)(h:SameO P H H')(trk:∀a,O' a->Mtb H' a):EnvM K O' noM H' Z σ where
 len:=E.len
 val:=λi t e=>let ⟨v,e1,e2⟩:=E.val i t e;⟨v,e1,e2.move hP hO h⟩
 own:=λi o e=>let ⟨_,_,r⟩:=E.own i o e;r.no.elim
 sub:=λ_ _ z=>z.elim
 dis:=λ_ _ _ z=>z.elim
 trk:=trk
def At (fi:En->Rs (List T))(src:List (Option Nat))(tgt:T->En->Rs En)(fc:En->Rs Bool)(fe:En->Rs T)(Z:En):Rs (List T):=fi Z >>= λts=>if ts.length<=sizeLine then(match cL tgt fc fe ts (cw src Z)with | .ok ys=>Rs.ok ys | _=> .bad)else .bad
theorem uB {src:List (Option Nat)}{fi:En->Rs (List T)}{tgt:T->En->Rs En}{fc:En->Rs Bool}{fe:En->Rs T}{Z:En}:eU fi src tgt fc fe Z=At fi src tgt fc fe Z >>= λl=> .ok (.lst l):=by
 unfold eU At
 cases fi Z with
 | bad=>rfl
 | err c=>rfl
 | ok ts=>
  rw[aC,aC]
  by_cases hz:ts.length<=sizeLine
  ·rw[if_pos hz,if_pos hz]
   cases cL tgt fc fe ts (cw src Z) <;> rfl
  ·rw[if_neg hz,if_neg hz];rfl
theorem uA {src:List (Option Nat)}{fi:En->Rs (List T)}{tgt:T->En->Rs En}{fc:En->Rs Bool}{fe:En->Rs T}{σ:L2.St}{H:Hp}{Q:VK}{Z:En}{O:Ow}(E:EnvO X.K O H Z σ)
  (hq1:Post X H (At fi src tgt fc fe Z) λall H1=> ∀D ys H',Nw X.K H1 D->Same H1 H'->H' D=some (.lst ys)->Reps X.K (λa=>O a\/a=D) H' all ys->Q (.ref D) H'):AH X.K (tPI X fi) src (xW X tgt) (tPT0 X.K fc) (tP0 X.K fe) σ H Q:=by
 unfold At at hq1;refine⟨Z,O,E,Post.mono hq1.bind λts H1 s1 q1 J hJ D hD hK=> ?_⟩
 have E1:=E.same s1
 by_cases hz:ts.length<=sizeLine
 ·rw[if_pos hz]at q1
  cases hall:cL tgt fc fe ts (cw src Z)with
  | bad=>rw[hall]at q1;exact q1.elim
  | err c=>rw[hall]at q1;exact q1.elim
  | ok all=>
   rw[hall]at q1
   have q2:∀D ys H',Nw X.K H1 D->Same H1 H'->H' D=some (.lst ys)->Reps X.K (λa=>O a\/a=D) H' all ys->Q (.ref D) H':=q1 H1 (Same.refl H1)
   have nD:Nw X.K H1 D:=⟨hD,hK⟩
   let O':Ow:=λa=>O a\/a=D
   have subO:∀a,O' a->O a\/Nw X.K H1 a:=λa z=>z.elim .inl λw=> .inr (w▸nD)
   -- the walk's word
   refine⟨λi m σ' ys H'=>m=ts.length - i/\i<=ts.length/\ys.length<=i/\H' D=some (.lst ys)/\SameO (λa=>a=D) (upd H1 D (.lst [])) H' ∧
    ∃Z' yts zs,EnvM X.K O' noM H' Z' σ'/\Reps X.K O' H' yts ys/\cL tgt fc fe (ts.drop i) Z'= .ok zs/\yts++zs=all,⟨ts.length,?_⟩,?_⟩
   ·have sN:Same H1 (upd H1 D (.lst [])):=aP hD _
    refine⟨by omega,Nat.zero_le _,Nat.le_refl _,aR,λb o e _=>e,cw src Z,[],all,?_,Reps.nil_,by simpa using hall,rfl⟩
    have E2:EnvM X.K O noM H1 (cw src Z) (eR src σ):=uC E1 src
    exact E2.move (P:=λa=>a=D) (λa z=> .inr (z▸nD)) subO (λb o e _=>sN b o e) λa z=>by
     rcases z with z | z
     ·exact(E1.mtb a z).same sN
     ·rw[z];exact .inl ⟨_,aR⟩
   ·rintro i m σ' ys H' ⟨rfl,hi',hyl,hDl,hsm,Z',yts,zs,E',ry,hl,hyz⟩
    refine⟨hDl,?_⟩
    have sm1:SameO (λa=>a=D) H1 H':=λb o e nb=>hsm b o (by rw[aG nb];exact e) nb
    have it:=hJ (λa=>a=D) O' (λa z=> .inr (z▸nD)) subO i H' sm1 (λa z=>(E'.trk a z).some)
    by_cases hlt:i<ts.length
    ·refine .inr ?_
     have hti:ts[i]? =some ts[i]:=by simp
     obtain⟨go,yl⟩:=it.2 ts[i] hti;refine⟨go,by omega,λxx Hc y=> ?_⟩
     obtain⟨sc,rx⟩:=yl xx Hc y
     have Ec:=E'.same sc;rw[List.drop_eq_getElem_cons hlt]at hl;unfold cL at hl;refine⟨Z',O',noM,ts[i],Ec,rx,?_⟩
     cases e1:tgt ts[i] Z' with
     | bad=>rw[e1]at hl;cases hl
     | err cc=>rw[e1]at hl;cases hl
     | ok Z1=>
      rw[e1,aC]at hl;intro σ1 Eg;refine⟨Z1,O',⟨noM,Eg⟩,?_⟩
      cases e2:fc Z1 with
      | bad=>rw[e2]at hl;cases hl
      | err cc=>rw[e2]at hl;cases hl
      | ok k=>
       rw[e2,aC]at hl;intro H3 s3
       have E3:=Eg.same s3
       have tot:Same H' H3:=sc.trans s3
       have D3:H3 D=some (.lst ys):=tot _ _ hDl
       have sm3:SameO (λa=>a=D) (upd H1 D (.lst [])) H3:=λb o e nb=>tot _ _ (hsm b o e nb)
       cases k with
       | false=>
        refine L2.iteF ?_
        have hl':cL tgt fc fe (ts.drop (i+1)) Z1= .ok zs:=by simpa using hl
        exact⟨ts.length - (i+1),by omega,rfl,hlt,by omega,D3,sm3,Z1,yts,zs,E3,ry.same tot,hl',hyz⟩
       | true=>
        refine L2.iteT ?_
        have hl':(fe Z1 >>= λy=>cL tgt fc fe (ts.drop (i+1)) Z1 >>= λys=>Rs.ok (y::ys))= .ok zs:=by simpa using hl
        refine⟨Z1,O',⟨noM,E3⟩,?_⟩
        cases e3:fe Z1 with
        | bad=>rw[e3]at hl';cases hl'
        | err cc=>rw[e3]at hl';cases hl'
        | ok yt=>
         rw[e3,aC]at hl'
         cases e4:cL tgt fc fe (ts.drop (i+1)) Z1 with
         | bad=>rw[e4]at hl';cases hl'
         | err cc=>rw[e4]at hl';cases hl'
         | ok zs'=>
          rw[e4,aC]at hl'
          have hzs:yt::zs'=zs:=by injection hl'
          intro H4 s4 v rv
          have D4:H4 D=some (.lst ys):=s4 _ _ D3
          have E4:=E3.same s4
          have tot4:Same H' H4:=tot.trans s4
          have smD:SameO (λa=>a=D) H4 (upd H4 D (.lst (ys++ [v]))):=λb o e nb=>by rw[aG nb];exact e
          have inO:∀a,a=D->O' a\/Nw X.K H4 a:=λa z=> .inl (.inr z)
          refine⟨D4,ts.length - (i+1),by omega,rfl,hlt,?_,aR,λb o e nb=>smD b o (s4 _ _ (sm3 b o e nb)) nb,Z1,yts++ [yt],zs',?_,?_,e4,?_⟩
          ·rw[List.length_append,List.length_singleton];omega
          ·exact E4.move inO (λa z=> .inl z) smD λaa z=>by
            by_cases hz:aa=D
            ·rw[hz];exact .inl ⟨_,aR⟩
            ·unfold Mtb;rw[aG hz];exact E4.trk aa z
          ·have r1:Reps X.K O' H4 (yts++ [yt]) (ys++ [v]):=(ry.same tot4).append (Reps.cons_ rv Reps.nil_)
           exact r1.move inO (λa z=> .inl z) smD
          ·rw[List.append_assoc,List.singleton_append,hzs];exact hyz
    ·refine .inl ⟨it.1 (by omega),?_⟩
     have hi2:i=ts.length:=by omega
     subst hi2;rw[List.drop_length]at hl
     have hzs:zs= []:=by unfold cL at hl;injection hl with hl;exact hl.symm
     subst hzs;rw[List.append_nil]at hyz;subst hyz
     have sF:Same H1 H':=λb o e=>sm1 b o e λz=>by rw[z,hD]at e;cases e
     exact q2 D ys H' nD sF hDl ry
 ·rw[if_neg hz]at q1
  exact q1.elim
theorem qM {src:List (Option Nat)}{fi:En->Rs (List T)}{tgt:T->En->Rs En}{fc:En->Rs Bool}{fe:En->Rs T}{σ:L2.St}{H:Hp}{Q:VK}(h0:tP X (eU fi src tgt fc fe) σ H Q):AH X.K (tPI X fi) src (xW X tgt) (tPT0 X.K fc) (tP0 X.K fe) σ H Q:=by
 obtain⟨Z,O,E,hq⟩:=h0;refine uA E ?_
 have e:eU fi src tgt fc fe Z=At fi src tgt fc fe Z >>= λl=> .ok (.lst l):=uB
 rw[e]at hq
 cases q:At fi src tgt fc fe Z with
 | bad=>rw[q]at hq;exact hq.elim
 | err c=>rw[q]at hq;exact hq
 | ok l=>
  rw[q,aC]at hq;intro H1 s1 D ys H' nD sD eD rD;exact hq H' (s1.trans sD) _ (Rep.lst_iff.mpr ⟨D,ys,rfl,λz=>(E.same s1).fresh nD.1 z,eD,rD.less λa z=> .inl z⟩)
theorem q_lc {elt tg iter:Expr}{ifs:List Expr}{scope:Scope}{N':List Str}{src:List (Option Nat)}{fi:En->Rs (List T)}{tgt:T->En->Rs En}{fc:En->Rs Bool}{fe:En->Rs T}
  (hc:X.calm=true) (S:LcScope X scope N' src) (hi:xO X tg iter fi)
  (block:∀cl C s₀ H₀ fp,yp (cq X scope cl N' C s₀ H₀ fp) tg tgt/\sM (cq X scope cl N' C s₀ H₀ fp) ifs (sY (cq X scope cl N' C s₀ H₀ fp) fc)/\cg (cq X scope cl N' C s₀ H₀ fp) elt fe)
  (hs:∀x,foldedSetIterable iter X.env x=pure x:=by intro _;rfl) :
  cg X (.ListComp elt [⟨tg,iter,ifs,0⟩] scope pos) (eU fi src tgt fc fe):=by
 have hPG:∀cl C s₀ H₀ fp,PG (cq X scope cl N' C s₀ H₀ fp) tg (xW X tgt):=λcl C s₀ H₀ fp=>(block cl C s₀ H₀ fp).1
 have hPI:∀cl C s₀ H₀ fp,sM (cq X scope cl N' C s₀ H₀ fp) ifs (tPT0 X.K fc):=λcl C s₀ H₀ fp pins s σ H Q I h=>(block cl C s₀ H₀ fp).2.1 pins s σ H Q I (tPT0.up (X:=cq X scope cl N' C s₀ H₀ fp) h)
 have hPE:∀cl C s₀ H₀ fp,PE (cq X scope cl N' C s₀ H₀ fp) elt (tP0 X.K fe):=λcl C s₀ H₀ fp pins s σ H Q I h=>(block cl C s₀ H₀ fp).2.2 pins s σ H Q I (tP0.up (X:=cq X scope cl N' C s₀ H₀ fp) h)
 exact PE.imp (tV (g:=xW X tgt) (tc:=tPT0 X.K fc) (te:=tP0 X.K fe) hc S hi (λcl C s₀ H₀ fp=>⟨hPG cl C s₀ H₀ fp,hPI cl C s₀ H₀ fp,hPE cl C s₀ H₀ fp⟩) hs) λσ H Q h=>qM h
inductive Fl where
 | nx (Z:En) | rt (t:T) | bk (Z:En) | ct (Z:En)
def OO (B:Ow)(M:Mn):Ow:=λa=>B a\/M.u a
structure Ev (K:PySem.W.Frag)(B:Ow)(M:Mn)(H:Hp)(Z:En)(σ:L2.St):Prop where
 env:EnvM K (OO B M) M H Z σ
 mine:∀a,M.u a->¬ B a
theorem Ev.same {K:PySem.W.Frag}{B:Ow}{M:Mn}{H H':Hp}{Z:En}{σ:L2.St}(h:Same H H')(e:Ev K B M H Z σ):Ev K B M H' Z σ:=⟨e.env.same h,e.mine⟩
theorem Ev.o {K:PySem.W.Frag}{B:Ow}{M:Mn}{H:Hp}{Z:En}{σ:L2.St}(e:Ev K B M H Z σ):EnvO K (OO B M) H Z σ:=⟨M,e.env⟩
def PostF (X:Cx)(B P:Ow)(H:Hp)(r:Rs Fl)(D:nT):Prop:=match r with
 | .ok (.nx Z')=> ∀σ' H' M',SameO P H H'->Ev X.K B M' H' Z' σ'->(∀a,M'.u a->P a\/Nw X.K H a)->D.nx σ' H'
 | .ok (.rt t)=> ∀v H',SameO P H H'->Rep X.K B H' t v->D.rt v H'
 | .ok (.bk Z')=> ∀σ' H' M',SameO P H H'->Ev X.K B M' H' Z' σ'->(∀a,M'.u a->P a\/Nw X.K H a)->D.bk σ' H'
 | .ok (.ct Z')=> ∀σ' H' M',SameO P H H'->Ev X.K B M' H' Z' σ'->(∀a,M'.u a->P a\/Nw X.K H a)->D.ct σ' H'
 | .err c=>XA X P H c
 | .bad=>False
def Cb (X:Cx)(F:En->Rs Fl):TS:=λD σ H=> ∃Z B M,Ev X.K B M H Z σ/\PostF X B M.u H (F Z) D
abbrev nN (X:Cx)(s:Stmt)(F:En->Rs Fl):Prop:=PS X s (Cb X F)
abbrev j6 (X:Cx)(s:List Stmt)(F:En->Rs Fl):Prop:=PSs X s (Cb X F)
theorem PostF.later {B P P1:Ow}{H H1:Hp}{r:Rs Fl}{D:nT}(h:PostF X B P H r D)(s:SameO P H H1)(sub:∀a,P1 a->P a\/Nw X.K H a):PostF X B P1 H1 r D:=by
 have back:∀a,P1 a\/Nw X.K H1 a->P a\/Nw X.K H a:=λa z=>z.elim (sub a) (f7 s)
 cases r with
 | bad=>exact h
 | err c=>exact XA.later h s sub
 | ok f=>
  cases f with
  | nx Z'=>exact λσ' H' M' s' E' o'=>h σ' H' M' (s.trans s' sub) E' λa z=>back a (o' a z)
  | rt t=>exact λv H' s' r=>h v H' (s.trans s' sub) r
  | bk Z'=>exact λσ' H' M' s' E' o'=>h σ' H' M' (s.trans s' sub) E' λa z=>back a (o' a z)
  | ct Z'=>exact λσ' H' M' s' E' o'=>h σ' H' M' (s.trans s' sub) E' λa z=>back a (o' a z)
theorem PostF.xa {B P:Ow}{H:Hp}{c:Str}{D:nT}(h:PostF X B P H (.err c) D):XA X sL H c:=XA.later (P:=P) h (λ_ _ e _=>e) λ_ z=>z.elim
def sN (Z:En):Rs Fl:=.ok (.nx Z)
def ar (F G:En->Rs Fl)(Z:En):Rs Fl:=do
 let f <-F Z
 match f with
 | .nx Z'=>G Z'
 | f=> .ok f
theorem yP:j6 X [] sN:=PSs.imp wG λD σ H ⟨Z,B,M,E,h⟩=>h σ H M (λ_ _ e _=>e) E λa z=> .inl z
theorem wn {st:Stmt}{cv:List Stmt}{F G:En->Rs Fl}(h1:nN X st F)(h2:j6 X cv G):j6 X (st::cv) (ar F G):=PSs.imp (tM h1 h2) λD σ H hh_=>by
 obtain⟨Z,B,M,E,h⟩:=hh_;refine⟨Z,B,M,E,?_⟩
 unfold ar at h
 cases q:F Z with
 | bad=>rw[q]at h;exact h.elim
 | err c=>rw[q]at h;exact h
 | ok f=>
  rw[q,aC]at h
  cases f with
  | nx Z'=>exact λσ' H' M' s' E' o'=>⟨Z',B,M',E',h.later s' o'⟩
  | rt t=>exact h
  | bk Z'=>exact h
  | ct Z'=>exact h
theorem yO {st:Stmt}{F:En->Rs Fl}(h:nN X st F):j6 X [st] F:=wE h
def aF (f:En->Rs T)(Z:En):Rs Fl:=do
 let t <-f Z
 .ok (.rt t)
theorem yM (ha:cg X a fa):nN X (.Return (some a) pos) (aF fa):=PS.imp (zd ha) λD σ H hh_=>by
 obtain⟨Z,B,M,E,h⟩:=hh_;refine⟨Z,OO B M,E.o,?_⟩
 unfold aF at h
 cases q:fa Z with
 | bad=>rw[q]at h;exact h.elim
 | err c=>rw[q]at h;exact PostF.xa h
 | ok t=>
  rw[q,aC]at h;exact λH' s v r=>h v H' (SameO.of s) (r.less λ_ z=> .inl z)
def dL (f:En->Rs Bool)(F G:En->Rs Fl)(Z:En):Rs Fl:=do
 let k <-f Z
 if k then F Z else G Z
theorem AW {f:En->Rs Bool}{A B:List Stmt}{F G:En->Rs Fl}(hc:pE X c f)(ha:j6 X A F)(hb:j6 X B G):nN X (.If c A B pos) (dL f F G):=PS.imp (Be hc ha hb) λD σ H hh_=>by
 obtain⟨Z,B,M,E,h⟩:=hh_;refine⟨Z,OO B M,E.o,?_⟩
 unfold dL at h
 cases q:f Z with
 | bad=>rw[q]at h;exact h.elim
 | err c=>rw[q]at h;exact PostF.xa h
 | ok k=>
  rw[q,aC]at h;intro H' s
  have E':Ev X.K B M H' Z σ:=E.same s
  cases k with
  | true=>refine L2.iteT ?_;exact⟨Z,B,M,E',PostF.later (by simpa using h) (SameO.of s) λa z=> .inl z⟩
  | false=>refine L2.iteF ?_;exact⟨Z,B,M,E',PostF.later (by simpa using h) (SameO.of s) λa z=> .inl z⟩
def bN (f:En->Rs T)(g:T->En->Rs En)(Z:En):Rs Fl:=do
 let t <-f Z
 match g t Z with
 | .ok Z'=> .ok (.nx Z')
 | _=> .bad
theorem tz {B:Ow}{M:Mn}{Z:En}{σ:L2.St}{H:Hp}{D:nT}{g:T->En->Rs En}{f:En->Rs T}(E:Ev X.K B M H Z σ)(h:PostF X B M.u H (bN f g Z) D):vW (tP X f) (xW X g) D σ H:=by
 refine⟨Z,OO B M,E.o,?_⟩
 unfold bN at h
 cases q:f Z with
 | bad=>rw[q]at h;exact h.elim
 | err c=>rw[q]at h;exact PostF.xa h
 | ok t=>
  rw[q,aC]at h;intro H' s v r;refine⟨Z,OO B M,M,t,E.env.same s,r,?_⟩
  cases q2:g t Z with
  | bad=>rw[q2]at h;exact h.elim
  | err c=>rw[q2]at h;exact h.elim
  | ok Z'=>
   rw[q2]at h;exact λσ' E'=>h σ' H' M (SameO.of s) ⟨E',E.mine⟩ λa z=> .inl z
theorem vU {f:En->Rs T}{σ:L2.St}{H:Hp}{Q Q':VK}(h:tP X f σ H Q)(w:∀v H',Q v H'->Q' v H'):tP X f σ H Q':=by
 obtain⟨Z,O,E,q⟩:=h;exact⟨Z,O,E,Post.mono q λt H' _ z v r=>w v H' (z v r)⟩
theorem AV {elt tg iter:Expr}{ifs:List Expr}{scope:Scope}{spos py:Pos}{N':List Str}{src:List (Option Nat)}{fi:En->Rs (List T)}{tgt:T->En->Rs En}{fc:En->Rs Bool}{fe:En->Rs T}(i:Nat){y:Str}
  (hc:X.calm=true) (S:LcScope X scope N' src) (hi:xO X tg iter fi)
  (block:∀cl C s₀ H₀ fp,yp (cq X scope cl N' C s₀ H₀ fp) tg tgt/\sM (cq X scope cl N' C s₀ H₀ fp) ifs (sY (cq X scope cl N' C s₀ H₀ fp) fc)/\cg (cq X scope cl N' C s₀ H₀ fp) elt fe)
  (hN:X.N.Nodup) (hiy:X.N[i]? =some y:=by rfl) (hy:Loc X.env.scope y:=by first | exact Or.inl rfl | exact Or.inr rfl) (hsw:swapsWith (.ListComp elt [⟨tg,iter,ifs,0⟩] scope pos) (some (.Name y py)) spos.line X.env=pure true:=by rfl)
  (hf:X.fn y=true\/X.env.scope.names.lookup y=some .local:=by first | exact .inl rfl | exact .inr rfl | assumption) (hs:∀x,foldedSetIterable iter X.env x=pure x:=by intro _;rfl) :
  nN X (.Assign [.Name y py] (.ListComp elt [⟨tg,iter,ifs,0⟩] scope pos) spos) (bN (eU fi src tgt fc fe) (gN i)):=by
 have hPG:∀cl C s₀ H₀ fp,PG (cq X scope cl N' C s₀ H₀ fp) tg (xW X tgt):=λcl C s₀ H₀ fp=>(block cl C s₀ H₀ fp).1
 have hPI:∀cl C s₀ H₀ fp,sM (cq X scope cl N' C s₀ H₀ fp) ifs (tPT0 X.K fc):=λcl C s₀ H₀ fp pins s σ H Q I h=>(block cl C s₀ H₀ fp).2.1 pins s σ H Q I (tPT0.up (X:=cq X scope cl N' C s₀ H₀ fp) h)
 have hPE:∀cl C s₀ H₀ fp,PE (cq X scope cl N' C s₀ H₀ fp) elt (tP0 X.K fe):=λcl C s₀ H₀ fp pins s σ H Q I h=>(block cl C s₀ H₀ fp).2.2 pins s σ H Q I (tP0.up (X:=cq X scope cl N' C s₀ H₀ fp) h)
 refine PS.imp (Bd (g:=xW X tgt) (tc:=tPT0 X.K fc) (te:=tP0 X.K fe) (i:=i) hc S hi (λcl C s₀ H₀ fp=>⟨hPG cl C s₀ H₀ fp,hPI cl C s₀ H₀ fp,hPE cl C s₀ H₀ fp⟩) hN hiy hy hsw hf hs) λD σ H ⟨Z,B,M,E,h⟩=>qM (vU (tz E h) λv H' z=> ?_)
 obtain⟨Z',O,M',t,E',r,q⟩:=z;unfold gN at q
 split at q
 ·rename_i Z2 e
  split at e
  ·rename_i hl
   cases e;exact q _ (E'.set hl r)
  ·cases e
 ·exact q.elim
theorem yT {tg:Expr}{g:T->En->Rs En}(ha:cg X a fa)(hg:yp X tg g)(hs:swapsWithSole [tg] a pos.line X.env=pure false:=by rfl)(hw:swappedStores [tg] a X.env=pure none:=by rfl)
  (h1:(assignEach [tg] X.env).map (·.2)= [assign tg X.env]:=by rfl):nN X (.Assign [tg] a pos) (bN fa g):=PS.imp (ze ha hg hs hw h1) λD σ H ⟨Z,B,M,E,h⟩=>tz E h
def v9 (f:En->Rs T)(Z:En):Rs Fl:=do
 let _ <-f Z
 .ok (.nx Z)
theorem wm (ha:cg X a fa)(hs:swapsWith a none pos.line X.env=pure false:=by rfl):nN X (.Expr a pos) (v9 fa):=PS.imp (mY ha hs) λD σ H hh_=>by
 obtain⟨Z,B,M,E,h⟩:=hh_;refine⟨Z,OO B M,E.o,?_⟩
 unfold v9 at h
 cases q:fa Z with
 | bad=>rw[q]at h;exact h.elim
 | err c=>rw[q]at h;exact PostF.xa h
 | ok t=>
  rw[q,aC]at h;exact λH' s v r=>h σ H' M (SameO.of s) (E.same s) λa z=> .inl z
def aW (g:T->En->Rs En)(F:En->Rs Fl):List T->En->Rs Fl
 | [],Z=> .ok (.nx Z)
 | t::r,Z=>do
  let Z1 <-g t Z
  let f <-F Z1
  match f with
  | .nx Z2=>aW g F r Z2
  | .ct Z2=>aW g F r Z2
  | .bk Z2=> .ok (.nx Z2)
  | .rt t=> .ok (.rt t)
def fM (fi:En->Rs (List T))(g:T->En->Rs En)(F:En->Rs Fl)(Z:En):Rs Fl:=do
 let ts <-fi Z
 match aW g F ts Z with
 | .ok f=> .ok f
 | _=> .bad
theorem jl {α:Type}{t:Sem α}{Q:α->Shared->Prop}{s:Shared}{E:Value->Shared->Prop}{P:Program}{w:World}{A:Around}(h:wpAny (model P w) A t Q (λ_ _=>False) s):wpAny (model P w) A t Q E s:=wpAny_mono h (λ_ _ q=>q) λ_ _ z=>z.elim
theorem wH {tg iter:Expr}{body:List Stmt}{wi:TI}{g:TG}{tb:TS}{pos:Pos}(hc:X.calm=true)(hi:PI X tg iter wi)(hg:PG X.nox tg g)(hb:PSs X.nox body tb)
  (hs:∀x,foldedSetIterable iter X.env x=pure x:=by intro _;rfl):PS X (.For tg iter body [] pos) (tFor wi g tb):=by
 intro pins s σ H D I h;refine wpAny_For (cf (hi pins s σ H _ I h) λv s1 h1=>cf h1 λitv s2 h2=> ?_) hs
 obtain⟨it,fp,tn,J,H2,e,I2,T,st2,f2,W,⟨m0,w0⟩,turn⟩:=h2;subst e
 have stat:∀{H':Hp},(∀b∈fp,H' b=none)->∀b∈fp,jd X pins H' b:=λhn b hb=>⟨hn b hb,(f2 b hb).2⟩
 refine codeAny_forLoop_any (λn s'=> ∃i σ' H',Inv X pins σ' H' s'/\tn i s'.heap/\(∀b∈fp,H' b=none)/\W i n σ' H') ?_ m0 ⟨0,σ,H2,I2,st2,λb hb=>(f2 b hb).1,w0⟩
 rintro n s3 ⟨i,σ3,H3,I3,st3,fr3,w3⟩
 rcases turn i n σ3 H3 w3 with⟨stop,qn⟩ | ⟨go,N,hN,step⟩
 ·refine jl (cf (T.done X.nox rfl rfl rfl hc i pins s3 σ3 H3 _ (I3.wish _) (stat fr3) st3 stop) λr s4 ⟨hr,I4⟩=> ?_)
  subst hr;exact wpAny_execs_nil ⟨σ3,H3,I4.wish _,qn⟩
 ·refine jl (cf (T.item X.nox rfl rfl rfl hc i pins s3 σ3 H3 _ (I3.wish _) (stat fr3) st3 go) λr s4 ⟨u,hr,h4⟩=> ?_)
  subst hr;refine jl (cf h4 λ_ s5 hh_=> ?_)
  obtain⟨x,H5,I5,r5,y5,st5,fr5⟩:=hh_
  have I5':=Inv.pinned (X:=X.nox) I5 (stat fr5) (T.obj _ _ st5);refine jl (cf (hg _ s5 σ3 H5 x u _ I5' r5 (step x H5 y5)) λ_ s6 hh_=> ?_)
  obtain⟨σ6,H6,I6,q6⟩:=hh_;refine jl (cf (hb _ s6 σ6 H6 _ I6 q6) λf s7 q7=> ?_)
  have again:∀{σ7:L2.St} {H7:Hp},Inv X.nox (pins++kI fp s5.heap) σ7 H7 s7->N σ7 H7->∃m,m<n/\∃i σ' H',Inv X pins σ' H' s7/\tn i s7.heap/\(∀b∈fp,H' b=none)/\W i m σ' H':=λ{σ7 H7} I7 n7=>by
   obtain⟨m',hm,w7⟩:=hN σ7 H7 n7;refine⟨m',hm,i+1,σ7,H7,(Inv.unpinned (X:=X.nox) I7).wish _,T.keep _ _ _ st5 λb hb o e=>(I7.pin (b,o) (List.mem_append_right _ (List.mem_append_right _ (f9 hb e)))).1,λb hb=> ?_,w7⟩
   obtain⟨o,e,d⟩:=T.obj _ _ st5 b hb;exact(I7.pin (b,o) (List.mem_append_right _ (List.mem_append_right _ (f9 hb e)))).2.1
  cases f with
  | next=>obtain⟨σ7,H7,I7,n7⟩:=q7;exact again I7 n7
  | cont=>obtain⟨σ7,H7,I7,n7⟩:=q7;exact again I7 n7
  | brk=>obtain⟨σ7,H7,I7,q7⟩:=q7;exact⟨σ7,H7,(Inv.unpinned (X:=X.nox) I7).wish _,q7⟩
  | ret v=>obtain⟨x7,σ7,H7,I7,r7,q7⟩:=q7;exact⟨x7,σ7,H7,(Inv.unpinned (X:=X.nox) I7).wish _,r7,q7⟩
theorem yQ {tg iter:Expr}{body:List Stmt}{fi:En->Rs (List T)}{g:T->En->Rs En}{F:En->Rs Fl}(hc:X.calm=true)(hi:xO X tg iter fi)(hg:yp X.nox tg g)(hb:j6 X.nox body F)
  (hs:∀x,foldedSetIterable iter X.env x=pure x:=by intro _;rfl):nN X (.For tg iter body [] pos) (fM fi g F):=PS.imp (wH hc hi hg hb hs) λD σ H hh_=>by
 obtain⟨Z,B,M,E,h⟩:=hh_;refine⟨Z,OO B M,E.o,?_⟩
 unfold fM at h
 cases q:fi Z with
 | bad=>rw[q]at h;exact h.elim
 | err c=>rw[q]at h;exact PostF.xa h
 | ok ts=>
  rw[q,aC]at h
  cases qq:aW g F ts Z with
  | bad=>rw[qq]at h;exact h.elim
  | err c=>rw[qq]at h;exact h.elim
  | ok fin=>
  rw[qq]at h;intro H1 s1 J hJ
  have E1:Ev X.K B M H1 Z σ:=E.same s1
  have h1:PostF X B M.u H1 (.ok fin) D:=PostF.later h (SameO.of s1) λa z=> .inl z
  refine⟨λi m σ' H'=>m=ts.length - i/\i<=ts.length/\SameO M.u H1 H'/\∃Z' M',Ev X.K B M' H' Z' σ'/\(∀a,M'.u a->M.u a\/Nw X.K H1 a)/\aW g F (ts.drop i) Z'= .ok fin,
   ⟨ts.length,by omega,Nat.zero_le _,λ_ _ e _=>e,Z,M,E1,λa z=> .inl z,by simpa using qq⟩,?_⟩
  rintro i m σ' H' ⟨rfl,hi',sm,Z',M',E',ow,hl⟩
  have it:=hJ M.u (OO B M') (λa z=> .inl (.inr z)) (λa z=>z.elim (λw=> .inl (.inl w)) λw=>(ow a w).elim (λy=> .inl (.inr y)) .inr) i H' sm (λa z=>(E'.env.trk a z).some)
  by_cases hlt:i<ts.length
  ·have hti:ts[i]? =some ts[i]:=by simp
   obtain⟨go,yl⟩:=it.2 ts[i] hti;rw[List.drop_eq_getElem_cons hlt]at hl;unfold aW at hl;refine .inr ⟨go,λσ2 H2=> ∃m',m'<ts.length - i/\(m'=ts.length - (i+1)/\i+1<=ts.length/\SameO M.u H1 H2/\∃Z2 M2,Ev X.K B M2 H2 Z2 σ2/\(∀a,M2.u a->M.u a\/Nw X.K H1 a)/\aW g F (ts.drop (i+1)) Z2= .ok fin),λσ2 H2 z=>z,λx Hc y=> ?_⟩
   obtain⟨sc,rx⟩:=yl x Hc y;refine⟨Z',OO B M',M',ts[i],E'.env.same sc,rx,?_⟩
   cases e1:g ts[i] Z' with
   | bad=>rw[e1]at hl;cases hl
   | err cc=>rw[e1]at hl;cases hl
   | ok Z1=>
    rw[e1,aC]at hl;intro σ1 Eg
    have E2:Ev X.K B M' Hc Z1 σ1:=⟨Eg,E'.mine⟩;refine⟨Z1,B,M',E2,?_⟩
    have smc:SameO M.u H1 Hc:=λb o e n=>sc _ _ (sm b o e n)
    have onward:∀{σ3:L2.St} {H3:Hp} {Z3:En} {M3:Mn},SameO M'.u Hc H3->Ev X.K B M3 H3 Z3 σ3->(∀a,M3.u a->M'.u a\/Nw X.K Hc a)->aW g F (ts.drop (i+1)) Z3= .ok fin →
      ∃m',m'<ts.length - i/\(m'=ts.length - (i+1)/\i+1<=ts.length/\SameO M.u H1 H3/\∃Z2 M2,Ev X.K B M2 H3 Z2 σ3/\(∀a,M2.u a->M.u a\/Nw X.K H1 a)/\aW g F (ts.drop (i+1)) Z2= .ok fin):=
     λ{σ3 H3 Z3 M3} s3 E3 o3 p3=>⟨_,by omega,rfl,hlt,smc.trans s3 ow,Z3,M3,E3,λa z=>(o3 a z).elim (ow a) (f7 smc),p3⟩
    cases e2:F Z1 with
    | bad=>rw[e2]at hl;cases hl
    | err cc=>rw[e2]at hl;cases hl
    | ok f=>
     rw[e2,aC]at hl
     cases f with
     | nx Z2=>exact λσ3 H3 M3 s3 E3 o3=>onward s3 E3 o3 hl
     | ct Z2=>exact λσ3 H3 M3 s3 E3 o3=>onward s3 E3 o3 hl
     | bk Z2=>
      cases hl
      exact λσ3 H3 M3 s3 E3 o3=>h1 σ3 H3 M3 (smc.trans s3 ow) E3 λa z=>(o3 a z).elim (ow a) (f7 smc)
     | rt t=>
      cases hl;exact λv H3 s3 r=>h1 v H3 (smc.trans s3 ow) r
  ·refine .inl ⟨it.1 (by omega),?_⟩
   have hi2:i=ts.length:=by omega
   subst hi2;rw[List.drop_length]at hl;cases hl;exact h1 σ' H' M' sm E' ow
def bi (c:En->Rs Bool)(F:En->Rs Fl):Nat->En->Rs Fl
 | 0,_=> .bad
 | n+1,Z=>match c Z with
  | .ok false=> .ok (.nx Z)
  | .ok true=>match F Z with
   | .ok (.nx Z')=>bi c F n Z'
   | .ok (.ct Z')=>bi c F n Z'
   | .ok (.bk Z')=> .ok (.nx Z')
   | .ok (.rt t)=> .ok (.rt t)
   | _=> .bad
  | _=> .bad
theorem tG {c:Expr}{body:List Stmt}{fc:En->Rs Bool}{F:En->Rs Fl}(n:Nat)(hc:pE X.nox c fc)(hb:j6 X.nox body F):nN X (.While c body [] pos) (bi fc F n):=by
 have base:PS X.nox (.While c body [] pos) (pJ (sY X.nox fc) (Cb X.nox F)):=tN PassesOwn.never hc hb;intro pins s σ H D I ⟨Z,B,M,E,h⟩
 cases qq:bi fc F n Z with
 | bad=>rw[qq]at h;exact h.elim
 | err c=>
  exfalso
  have:∀n Z,bi fc F n Z≠ .err c:=by
   intro n
   induction n with
   | zero=>intro Z z;cases z
   | succ n ih=>
    intro Z z;unfold bi at z
    split at z
    ·cases z
    ·split at z <;> first | exact ih _ z | cases z
    ·cases z
  exact this n Z qq
 | ok fin=>
  rw[qq]at h
  have goal:pJ (sY X.nox fc) (Cb X.nox F) D σ H:=by
   refine⟨λm σ' H'=>SameO M.u H H'/\∃Z' M',Ev X.K B M' H' Z' σ'/\(∀a,M'.u a->M.u a\/Nw X.K H a)/\bi fc F m Z'= .ok fin,⟨n,λ_ _ e _=>e,Z,M,E,λa z=> .inl z,qq⟩,?_⟩
   rintro m σ' H' ⟨sm,Z',M',E',ow,hl⟩
   cases m with
   | zero=>cases hl
   | succ m=>
    refine⟨Z',OO B M',E'.o,?_⟩
    unfold bi at hl
    cases e1:fc Z' with
    | bad=>rw[e1]at hl;cases hl
    | err cc=>rw[e1]at hl;cases hl
    | ok k=>
     rw[e1]at hl;intro H2 s2
     have E2:Ev X.K B M' H2 Z' σ':=E'.same s2
     have sm2:SameO M.u H H2:=λb o e n=>s2 _ _ (sm b o e n)
     cases k with
     | false=>
      cases hl;refine L2.iteF ?_
      exact h σ' H2 M' sm2 E2 ow
     | true=>
      refine L2.iteT ?_
      refine⟨λσ3 H3=>SameO M.u H H3/\∃Z3 M3,Ev X.K B M3 H3 Z3 σ3/\(∀a,M3.u a->M.u a\/Nw X.K H a)/\bi fc F m Z3= .ok fin,λσ3 H3 z=>⟨m,Nat.lt_succ_self m,z⟩,Z',B,M',E2,?_⟩
      have hl':(match F Z' with | .ok (.nx Z')=>bi fc F m Z' | .ok (.ct Z')=>bi fc F m Z' | .ok (.bk Z')=> .ok (.nx Z') | .ok (.rt t)=> .ok (.rt t) | _=> .bad)= .ok fin:=hl
      cases e2:F Z' with
      | bad=>rw[e2]at hl';cases hl'
      | err cc=>rw[e2]at hl';cases hl'
      | ok f=>
       rw[e2]at hl'
       cases f with
       | nx Z2=>exact λσ3 H3 M3 s3 E3 o3=>⟨sm2.trans s3 ow,Z2,M3,E3,λa z=>(o3 a z).elim (ow a) (f7 sm2),hl'⟩
       | ct Z2=>exact λσ3 H3 M3 s3 E3 o3=>⟨sm2.trans s3 ow,Z2,M3,E3,λa z=>(o3 a z).elim (ow a) (f7 sm2),hl'⟩
       | bk Z2=>
        cases hl'
        exact λσ3 H3 M3 s3 E3 o3=>h σ3 H3 M3 (sm2.trans s3 ow) E3 λa z=>(o3 a z).elim (ow a) (f7 sm2)
       | rt t=>
        cases hl';exact λv H3 s3 r=>h v H3 (sm2.trans s3 ow) r
  refine jl (cf (base pins s σ H D (I.wish _) goal) λf s' q=> ?_)
  cases f with
  | next=>obtain⟨σ7,H7,I7,n7⟩:=q;exact⟨σ7,H7,I7.wish _,n7⟩
  | cont=>obtain⟨σ7,H7,I7,n7⟩:=q;exact⟨σ7,H7,I7.wish _,n7⟩
  | brk=>obtain⟨σ7,H7,I7,n7⟩:=q;exact⟨σ7,H7,I7.wish _,n7⟩
  | ret v=>obtain⟨x7,σ7,H7,I7,r7,q7⟩:=q;exact⟨x7,σ7,H7,I7.wish _,r7,q7⟩
def xY (Z:En):Rs Fl:=.ok (.ct Z)
end
def bf (F:En->Rs Fl)(Z:En):Rs T:=do
 let f <-F Z
 match f with
 | .nx _=> .ok .non
 | .rt t=> .ok t
 | _=> .bad
def aI (n:Nat)(ts:List T):En:=ts.map Sl.va++List.replicate (n - ts.length) Sl.em
theorem rJ {n:Nat}{ts:List T}{i:Nat}{o:OT}(e:(aI n ts)[i]? =some (.ow o)):False:=by
 unfold aI at e
 by_cases hi:i<ts.length
 ·rw[List.getElem?_append_left (by simpa using hi),List.getElem?_map,List.getElem?_eq_getElem hi]at e
  cases e
 ·rw[List.getElem?_append_right (by simpa using hi),List.getElem?_replicate]at e
  split at e <;> cases e
theorem lS {K:PySem.W.Frag}{O:Ow}{H:Hp}{N:List Str}{ts:List T}{vs:List V}(r:Reps K O H ts vs)(hl:ts.length<=N.length)(trk:∀a,O a->Mtb H a):Ev K O noM H (aI N.length ts) (start N vs):=by
 have hlen:=r.length
 have sub:∀a,OO O noM a->O a:=λa z=>z.elim id λ⟨_,w⟩=>w.elim
 refine⟨⟨by unfold aI L2.start;simp;omega,λi t e=> ?_,λi o e=>(rJ e).elim,λ_ _ z=>z.elim,λ_ _ _ z=>z.elim,λa z=>trk a (sub a z)⟩,λa ⟨_,z⟩=>z.elim⟩
 unfold aI at e;unfold L2.start
 by_cases hi:i<ts.length
 ·rw[List.getElem?_append_left (by simpa using hi),List.getElem?_map,List.getElem?_eq_getElem hi]at e
  have e':ts[i] =t:=by injection e with e;injection e
  obtain⟨v,e1,e2⟩:=r.get (i:=i) (t:=t) (by rw[<-e'];simp)
  refine⟨v,?_,e2.less sub⟩
  rw[List.getElem?_append_left (by simp;omega),List.getElem?_map,e1];rfl
 ·rw[List.getElem?_append_right (by simpa using hi),List.getElem?_replicate]at e
  split at e <;> cases e
section
variable {P:Program}{w:World}{K:PySem.W.Frag}{mg:Str->Option Value}{base:Heap}
theorem BO {x qual:Str}{st:Stmt}{f:Addr}{fd:FuncData}{N ps:List Str}{k n:Nat}{g:List T->Rs T}(Fn:L2.Fun K x qual st f fd)(S:ay N ps (aj st))(hn:ps.length=n)
  (hbody:∀(cdv:Value) (A:Around) (outer:List Env) (s:Shared) (H:Hp) (E:XK),Room k (A.deeper (envOfC qual (aj st) s.heap.objs.size f cdv)) →
   ∃F,j6 (ju CX0 P w K mg base N qual (aj st) f cdv A outer s H E).nox (cY st) F/\∀ts,ts.length=n->∀t,g ts= .ok t->bf F (aI N.length ts)= .ok t):nQ P w K mg base CX0 (k+1) f fd ps (spP K n g):=by
 have hpl:ps.length<=N.length:=by have:=congrArg List.length S.pre;rw[List.length_take]at this;omega
 refine Fn.ok S (λvs H Q E h=> ?_) (λcdv A outer s H vs Q E hr h=> ?_)
 ·obtain⟨ts,O,r,_,hl,_⟩:=h
  rw[<-r.length,hl,hn]
 ·obtain⟨ts,O,r,trk,hl,h⟩:=h
  obtain⟨F,hF,hv⟩:=hbody cdv A outer s H E hr;refine⟨_,hF,aI N.length ts,O,noM,lS r (by omega) trk,?_⟩
  have no:∀a,¬noM.u a:=λa ⟨_,z⟩=>z
  cases q:g ts with
  | bad=>rw[q]at h;exact h.elim
  | err c=>rw[q]at h;exact h.elim
  | ok t=>
   rw[q]at h
   have hb:=hv ts hl t q;unfold bf at hb
   cases q2:F (aI N.length ts)with
   | bad=>rw[q2]at hb;cases hb
   | err c=>rw[q2]at hb;cases hb
   | ok fl=>
    rw[q2,aC]at hb
    have sameOf:∀H',SameO noM.u H H'->Same H H':=λH' s b o e=>s b o e (no b)
    cases fl with
    | nx Z'=>cases hb;exact λσ' H' M' s' E' o'=>h .non H' (sameOf H' s') Rep.non_
    | rt t'=>cases hb;exact λv H' s' r'=>h v H' (sameOf H' s') r'
    | bk Z'=>cases hb
    | ct Z'=>cases hb
end
end Tr
namespace Enu
open PySem
open AutoSeq1 (wpAny_loadPart')
section
variable {prog:Program}{w:World}{A:Around}{E:Value->Shared->Prop}{s:Shared}
theorem tupNext {it tt:Addr}{k:Nat}{its:Array Value}{x:Value}{Q:Value->Shared->Prop}(hi:s.heap.IsTupleIter it tt k)(ht:s.heap.IsTuple tt its)(hx:its[k]? =some x)
  (hQ:∀h',h'.IsTupleIter it tt (k+1)->Heap.SameBut it s.heap h'->Q x { s with heap:=h' }):wpAny (model prog w) A (Builtin.SmallTypes.nextOf (.ref it)) Q E s:=by
 obtain⟨ob,g1,g2,g3⟩:=id hi;obtain⟨ot,k1,_,m,k3⟩:=ht;unfold Builtin.SmallTypes.nextOf;refine wpAny_bind (wpAny_callSpecial?_slot (name:=Str.ofString "__next__") hi.typeIs F.slot_tuple_iterator_next (wpAny_call_entry F.slot_tuple_iterator_next hi.typeIs F.entry_tuple_iterator_next ?_ (F.args_tuple_iterator_next_1 _)))
 show wpAny (model prog w) _ (field (.ref it) 0 >>= _) _ _ s
 refine wpAny_bind (wpAny_field g1 g3 (x:=.ref tt) rfl ?_)
 show wpAny (model prog w) _ (if (Value.ref tt == Value.none)=true then _ else _) _ _ s
 rw[if_neg (show ¬((Value.ref tt == Value.none)=true)by exact Bool.false_ne_true)]
 show wpAny (model prog w) _ (field (.ref it) 1 >>= _) _ _ s
 refine wpAny_bind (wpAny_field g1 g3 (x:=.int k 0) rfl ?_)
 show wpAny (model prog w) _ (seqItems? (.ref tt) >>= _) _ _ s
 refine wpAny_bind (wpAny_seqItems k1 k3 ?_)
 simp only[hx,Int.toNat_natCast];refine wpAny_bind (wpAny_setField g1 g3 (by simp) (wpAny_pure ⟨x,rfl,wpAny_pure (hQ _ ?_ (Heap.SameBut.update ..))⟩))
 refine⟨_,Heap.get?_update_self _ g1 (Obj.isFreed_of_fields (Obj.data_mapFields g3 _)),(Obj.cls_mapFields ..).trans g2,?_⟩
 rw[Obj.data_mapFields g3];simp[rawInt]
theorem tupStop {it tt:Addr}{k:Nat}{its:Array Value}{Q:Value->Shared->Prop}(hh:A.handled=none)(hi:s.heap.IsTupleIter it tt k)(ht:s.heap.IsTuple tt its)(hx:its[k]? =none)
  (hE:∀h' e,Heap.ExtBut it s.heap h'->(∃o,h'.get? e=some o/\o.cls= .type "StopIteration")->E (.ref e) { s with heap:=h' }):wpAny (model prog w) A (Builtin.SmallTypes.nextOf (.ref it)) Q E s:=by
 obtain⟨ob,g1,g2,g3⟩:=id hi;obtain⟨ot,k1,_,m,k3⟩:=ht;unfold Builtin.SmallTypes.nextOf;refine wpAny_bind (wpAny_callSpecial?_slot (name:=Str.ofString "__next__") hi.typeIs F.slot_tuple_iterator_next (wpAny_call_entry F.slot_tuple_iterator_next hi.typeIs F.entry_tuple_iterator_next ?_ (F.args_tuple_iterator_next_1 _)))
 show wpAny (model prog w) _ (field (.ref it) 0 >>= _) _ _ s
 refine wpAny_bind (wpAny_field g1 g3 (x:=.ref tt) rfl ?_)
 show wpAny (model prog w) _ (if (Value.ref tt == Value.none)=true then _ else _) _ _ s
 rw[if_neg (show ¬((Value.ref tt == Value.none)=true)by exact Bool.false_ne_true)]
 show wpAny (model prog w) _ (field (.ref it) 1 >>= _) _ _ s
 refine wpAny_bind (wpAny_field g1 g3 (x:=.int k 0) rfl ?_)
 show wpAny (model prog w) _ (seqItems? (.ref tt) >>= _) _ _ s
 refine wpAny_bind (wpAny_seqItems k1 k3 ?_)
 simp only[hx,Int.toNat_natCast];refine wpAny_bind (wpAny_rule (wpAny_bind (wpAny_setField g1 g3 (by simp) ?_)))
 show wpAny (model prog w) _ (newExc (.type "StopIteration") [] >>= _) _ _ _
 refine wpAny_bind ?_
 simp only[newTuple,newExc];refine wpAny_bind (wpAny_newObj_type ?_ (by size_fits))
 refine wpAny_bind (m:=firstArgMember _ _) (wpAny_of_eq (a:=Value.none) (by first | (simp only[firstArgMember];rfl) | rfl) ?_)
 refine wpAny_newObj_type ?_ (by size_fits)
 simp only[raiseNew];refine wpAny_bind (wpAny_handled ?_)
 first | rw[hh] | rw[show A.in1.handled=none from hh]
 refine wpAny_bind (wpAny_pure (wpAny_throw ?_))
 refine hE _ _ (((Heap.SameBut.update ..).extBut.push _).push _) ⟨_,Heap.get?_push_size _ rfl,rfl⟩
end
theorem tupDraws {prog:Program}{w:World}{A:Around}(hh:A.handled=none)(it tt:Addr)(hne:tt≠it)(its:Array Value) :
  Draws prog w A it [it,tt] its.size (λi v=>its[i]? =some v) (λi h=>h.IsTupleIter it tt i/\h.IsTuple tt its) where
 live:=λ_ _ st=>by obtain⟨o,ho,_⟩:=st.1;exact⟨o,ho⟩
 frame:=λ_ _ _ st hk=>by
  obtain⟨⟨o,e,r⟩,⟨o',e',r'⟩⟩:=st;exact⟨⟨o,hk it (by simp) o e,r⟩,⟨o',hk tt (by simp) o' e',r'⟩⟩
 item:=λi s Q E hi st hQ=>by
  refine tupNext st.1 st.2 (x:=its[i]) (by simp[hi]) λh' hit' hs'=> ?_
  obtain⟨o',e',r'⟩:=st.2;exact hQ _ h' s.toks (by simp[hi]) ⟨hit',⟨o',(hs'.2 tt hne).trans e',r'⟩⟩ hs'
 done:=λs Q E st hE=>tupStop hh st.1 st.2 (by simp) hE
theorem newT (l:Addr)(items:Array Value)(n:Nat)(dct:Option Addr)(sl:Array (Option Value)) :
  Meets (Builtin.«enumerate.__new__» ⟨[.type "enumerate",.ref l],[]⟩) (λ_ R s=>s.heap.get? l=some { cls:=.type "tuple",dict:=dct,data:=.seq items n,slots:=sl } ∧
   R (.ok (.ret (.ref (s.heap.push { cls:=.type "tuple_iterator",data:=.fields #[.ref l,.int 0 0] }).objs.size)))
    { s with heap:=(s.heap.push { cls:=.type "tuple_iterator",data:=.fields #[.ref l,.int 0 0] }).push { cls:=.type "enumerate",data:=.fields #[.none,.bool false,.ref s.heap.objs.size,rawInt 0,.none,.none] } }):=
 .of_wp λprog w A R s h=>by
  obtain⟨hp,g,d,tk,os⟩:=s;obtain⟨hl,h⟩:=h
  have hsub:=sub_enumerate
  have hT:Heap.IsTuple (Shared.heap ⟨hp,g,d,tk,os⟩) l items:=⟨_,hl,rfl,n,rfl⟩
  wp_walk using wpAny_loadPart' hl
  refine wpAny_stack_any λst=>wpAny_pure ?_
  split
  ·rename_i c _ _ _ _ _
   cases (c == Value.type "enumerate")
   ·wp_walk using wpAny_loadPart' hl,wpAny_pyIter_tuple hT
    exact⟨_,rfl,h⟩
   ·wp_walk using wpAny_loadPart' hl,wpAny_pyIter_tuple hT
    exact⟨_,rfl,h⟩
  ·wp_walk using wpAny_loadPart' hl,wpAny_pyIter_tuple hT
   exact⟨_,rfl,h⟩
theorem callT {prog:Program}{w:World}{A:Around}{E:Value->Shared->Prop}{s:Shared}{l:Addr}{items:Array Value}{Q:Value->Shared->Prop}(hL:s.heap.IsTuple l items)
  (h:∀h',IsEnum h' (s.heap.objs.size+1) s.heap.objs.size 0 .none->h'.IsTupleIter s.heap.objs.size l 0->h'.objs.size=s.heap.objs.size+2 →
   (∀b o,s.heap.get? b=some o->h'.get? b=some o)->Q (.ref (s.heap.objs.size+1)) { s with heap:=h' }):wpAny (model prog w) A (call (.type "enumerate") [.ref l]) Q E s:=by
 obtain⟨⟨cc,dc,dd,ss⟩,hl,hc,n,hd⟩:=hL
 replace hc:cc= .type "tuple":=hc
 replace hd:dd= .seq items n:=hd
 subst hc hd;refine callType_new F.called_enumerate (by decide) (F.typeCall_enumerate_1 _) (F.newCall_enumerate_1 _) (λobj=>F.args_object_init_2 obj _) F.entry_enumerate_new (newT l items n dc ss) ⟨hl,?_⟩
 have hz:(s.heap.push { cls:=.type "tuple_iterator",data:=.fields #[.ref l,.int 0 0] }).objs.size=s.heap.objs.size+1:=Heap.size_push ..
 show _/\_
 rw[hz]
 have he:IsEnum ((s.heap.push { cls:=.type "tuple_iterator",data:=.fields #[.ref l,.int 0 0] }).push
   { cls:=.type "enumerate",data:=.fields #[.none,.bool false,.ref s.heap.objs.size,rawInt 0,.none,.none] }) (s.heap.objs.size+1) s.heap.objs.size 0 .none:=by
  have q:=Heap.get?_push_size (s.heap.push { cls:=.type "tuple_iterator",data:=.fields #[.ref l,.int 0 0] })
   (o:={ cls:=.type "enumerate",data:=.fields #[.none,.bool false,.ref s.heap.objs.size,rawInt 0,.none,.none] }) rfl
  rw[hz]at q;exact q
 refine⟨⟨_,he,rfl⟩,h _ he ⟨_,Heap.get?_push_of_some _ (Heap.get?_push_size _ rfl),rfl,rfl⟩ (by rw[Heap.size_push,hz]) λb o x=>Heap.get?_push_of_some _ (Heap.get?_push_of_some _ x)⟩
end Enu
namespace L2
open PySem PySem.Spec PyProof.Rows
section
variable {X:Cx}{pins:List (Addr×Obj)}{σ:L2.St}{H:Hp}{s:Shared}{h':Heap}
theorem Inv.turnedT {t':Nat}{fp:List Addr}{Tp:Addr}{xs:List V}(I:Inv X pins σ H s)(hf:∀b∈fp,jd X pins H b)(k:∀b o,b∉fp->s.heap.get? b=some o->h'.get? b=some o)
  (ht:∀b∈fp,∃o,h'.get? b=some o) (hT:s.heap.objs.size<=Tp) (new:ObjOk X.prog X.w (upd H Tp (.tup xs)) h' Tp (.tup xs)):Inv X pins σ (upd H Tp (.tup xs)) { s with heap:=h',toks:=t' }:=by
 have hn:H Tp=none:=I.hok.fresh hT
 have jU:∀b o,s.heap.get? b=some o->b≠Tp:=λb o e=>Nat.ne_of_lt (Nat.lt_of_lt_of_le (Heap.lt_size e) hT)
 have nf:∀b u,H b=some u->b∉fp:=λb u e z=>by rw[(hf b z).1]at e;cases e
 refine I.step (g':=s.gens) (d':=s.drawn) (ch:=fp) (λb hb=>⟨(hf b hb).2.2.2.1,(hf b hb).2.1,(hf b hb).2.2.2.2.1,(hf b hb).2.2.2.2.2⟩) (λb o _ _ hc e _=>k b o hc e) (λb o _ _ hc e _=>⟨o.slots,k b o hc e⟩)
  (λb o _ e n=>by rw[aG (jU b o e)];exact n) (λb o hc e=>⟨o,k b o hc e⟩) (λb ys e=>by rw[aG (bK e hn)];exact e) (λb o u e=>by rw[aG (bK e hn)];exact e)
  (λb ps e=>⟨#[],by rw[aG (bK e hn),e];simp⟩) (λm hm=> ?_) (λb u e=> ?_) I.bare
 ·obtain⟨o,es,ep,ho,r⟩:=hm
  exact⟨o,es,ep,k _ o (λz=>(hf _ z).2.1 rfl) ho,r⟩
 ·by_cases hb:b=Tp
  ·subst hb;rw[aR]at e;cases e;exact new
  ·rw[aG hb]at e
   refine(I.hok b u e).stay (λc v hc q=>k c v ?_ q) (λc q=>by rw[aG (bK q hn)];exact q) λc ys q=>by rw[aG (bK q hn)];exact q
   rcases hc with z | z
   ·rw[z];exact nf b u e
   ·exact nf c _ z
theorem Inv.turnedL {t':Nat}{fp:List Addr}(I:Inv X pins σ H s)(hf:∀b∈fp,jd X pins H b)(k:∀b o,b∉fp->s.heap.get? b=some o->h'.get? b=some o):Inv X pins σ H { s with heap:=h',toks:=t' }:=by
 have nf:∀b u,H b=some u->b∉fp:=λb u e z=>by rw[(hf b z).1]at e;cases e
 refine I.step (g':=s.gens) (d':=s.drawn) (ch:=fp) (λb hb=>⟨(hf b hb).2.2.2.1,(hf b hb).2.1,(hf b hb).2.2.2.2.1,(hf b hb).2.2.2.2.2⟩) (λb o _ _ hc e _=>k b o hc e) (λb o _ _ hc e _=>⟨o.slots,k b o hc e⟩)
  (λb o _ e n=>n) (λb o hc e=>⟨o,k b o hc e⟩) (λb ys e=>e) (λb o u e=>e)
  (λb ps e=>⟨#[],by rw[e];simp⟩) (λm hm=> ?_) (λb u e=> ?_) I.bare
 ·obtain⟨o,es,ep,ho,r⟩:=hm
  exact⟨o,es,ep,k _ o (λz=>(hf _ z).2.1 rfl) ho,r⟩
 ·refine(I.hok b u e).stay (λc v hc q=>k c v ?_ q) (λc q=>q) λc ys q=>q
  rcases hc with z | z
  ·rw[z];exact nf b u e
  ·exact nf c _ z
end
def yn (K:PySem.W.Frag)(H:Hp)(a:Addr)(tt:Bool)(xs:List V):Prop:=if tt then SqT K H a xs else SqL K H a xs
def Cn (K:PySem.W.Frag)(a:Addr)(tt:Bool):It:=
 ⟨λi H=> ∃xs x,yn K H a tt xs/\xs[i]? =some x,λi H x H'=> ∃p v,x= .ref p/\H p=none/\H'=upd H p (.tup [.int (i:Nat),v])/\∀xs,yn K H a tt xs->xs[i]? =some v,λi H=> ∃xs,yn K H a tt xs/\xs.length<=i⟩
def itAt (tt:Bool)(h:Heap)(it a:Addr)(i:Nat):Prop:=if tt then h.IsTupleIter it a i else h.IsListIter it a i
theorem itAt.obj {tt:Bool}{h:Heap}{it a:Addr}{i:Nat}(st:itAt tt h it a i):∃o,h.get? it=some o/\∀v,o.data≠ .cell v:=by
 cases tt with
 | true=>obtain⟨o,e,c,d⟩:=(show h.IsTupleIter it a i from st);exact⟨o,e,λv z=>by rw[d]at z;cases z⟩
 | false=>obtain⟨o,e,c,d⟩:=(show h.IsListIter it a i from st);exact⟨o,e,λv z=>by rw[d]at z;cases z⟩
theorem itAt.keep {tt:Bool}{h h':Heap}{it a:Addr}{i:Nat}(st:itAt tt h it a i)(k:∀o,h.get? it=some o->h'.get? it=some o):itAt tt h' it a i:=by
 cases tt with
 | true=>obtain⟨o,e,r⟩:=(show h.IsTupleIter it a i from st);exact(show h'.IsTupleIter it a i from⟨o,k o e,r⟩)
 | false=>obtain⟨o,e,r⟩:=(show h.IsListIter it a i from st);exact(show h'.IsListIter it a i from⟨o,k o e,r⟩)
theorem rG {P:Program}{w:World}{K:PySem.W.Frag}{elts:List Expr}{kk:Nat}{pos:Pos}(tt:Bool)(a e it:Addr)(hei:e≠it) :
  vz P w K (.Tuple elts kk pos) (Cn K a tt) [e,it] e (λi h=>(∃old,IsEnum h e it i old)/\itAt tt h it a i) where
 mem:=by simp
 obj:=λi h st b hb=>by
  obtain⟨⟨old,he⟩,hi⟩:=st;rcases List.mem_cons.mp hb with rfl | hb
  ·exact⟨_,he,λv z=>by have z':Data.fields _=Data.cell v:=z;cases z'⟩
  ·rw[List.mem_singleton.mp hb];exact hi.obj
 keep:=λi h h' st k=>by
  obtain⟨⟨old,he⟩,hi⟩:=st;exact⟨⟨old,k e (by simp) _ he⟩,hi.keep λo q=>k it (by simp) o q⟩
 item:=by
  intro X hP hw hK hc i pins s σ H E I hf st hg;subst hP hw hK;obtain⟨xs,x,hq,hx⟩:=hg;obtain⟨⟨old,he⟩,hi⟩:=st
  -- by what is walked
  have key:∀(its:List Value),Vals xs its->(∀ys,yn X.K H a tt ys->ys=xs)->∀(fp0:List Addr) (St:Nat->Heap->Prop),Draws X.prog X.w X.A.in1 it fp0 its.toArray.size (λi v=>its.toArray[i]? =some v) St->e∉fp0->it∈fp0->St i s.heap →
    (∀h',St (i+1) h'->itAt tt h' it a (i+1)) →
    wpAny (model X.prog X.w) X.A (pyNext (.ref e)) (λr s1=> ∃u,r=some u/\wpAny (model X.prog X.w) X.A (letOwnedTupleGo (.Tuple elts kk pos) (.ref e) u) (λ_ s2=> ∃x' H',Inv X pins σ H' s2/\RelV x' u/\(Cn X.K a tt).yld i H x' H' ∧
     ((∃old,IsEnum s2.heap e it (i+1:Nat) old)/\itAt tt s2.heap it a (i+1))/\∀b∈ [e,it],H' b=none) E s1) E s:=by
   intro its rv uniq fp0 St D hef hif hst hnext;obtain⟨u,hu,ru⟩:=rv.get hx
   have hlt:i<its.toArray.size:=by
    have:=(List.getElem?_eq_some_iff.mp hu).1
    simpa using this
   have W:=WalksT.enumerateD D e hei hef hif;refine W.item i s _ _ hlt ⟨⟨old,he⟩,hst⟩ λTp vals h1 tk hPt hTsz hTup hMid hk=>⟨.ref Tp,rfl,?_⟩
   refine W.go elts kk pos i Tp { s with heap:=h1,toks:=tk } _ _ hMid λh2 hst2 hk2=> ?_
   obtain⟨t,x',hPx,hvals⟩:=hPt;subst hvals
   have hxe:x'=u:=by
    have h1':its.toArray[i]? =some x':=hPx
    have h2':its.toArray[i]? =some u:=by simpa using hu
    rw[h1']at h2';exact Option.some.inj h2'
   subst hxe
   have hTw:=W.apart i Tp h1 hMid;obtain⟨oT,eT,rT⟩:=hTup
   have eT2:h2.get? Tp=some oT:=hk2 Tp oT hTw eT
   have kAll:∀b o,b∉ [e,it]->s.heap.get? b=some o->h2.get? b=some o:=λb o hb q=>hk2 b o hb (hk b o hb q)
   obtain⟨⟨old2,he2⟩,hs2⟩:=hst2
   have hit2:=hnext h2 hs2
   have there:∀b∈ [e,it],∃o,h2.get? b=some o:=λb hb=>by
    rcases List.mem_cons.mp hb with rfl | hb
    ·exact⟨_,he2⟩
    ·rw[List.mem_singleton.mp hb];obtain⟨o,q,_⟩:=hit2.obj;exact⟨o,q⟩
   have hn:H Tp=none:=I.hok.fresh hTsz
   have new:ObjOk X.prog X.w (upd H Tp (.tup [.int (i:Nat),x])) h2 Tp (.tup [.int (i:Nat),x]):=
    ⟨by show 2<=sizeLine;decide,[.int (i:Nat) t,x'],.cons ⟨t,rfl⟩ (.cons ru .nil),⟨oT,eT2,rT⟩⟩
   have I2:=I.turnedT (t':=tk) hf kAll there hTsz new;refine⟨.ref Tp,_,I2,rfl,⟨Tp,x,rfl,hn,rfl,λys hy=>by rw[uniq ys hy];exact hx⟩,⟨⟨old2,he2⟩,hit2⟩,λb hb=> ?_⟩
   have hbT:b≠Tp:=λz=>by
    obtain⟨o,q⟩:∃o,s.heap.get? b=some o:=by
     rcases List.mem_cons.mp hb with rfl | hb
     ·exact⟨_,he⟩
     ·rw[List.mem_singleton.mp hb];obtain⟨o,q,_⟩:=hi.obj;exact⟨o,q⟩
    exact absurd (Nat.lt_of_lt_of_le (Heap.lt_size q) hTsz) (by rw[z];exact Nat.lt_irrefl _)
   rw[aG hbT];exact(hf b hb).1
  have hne:∀b∈ [e,it],a≠b:=λb hb z=>by
   have hb':=(hf b hb).1;rw[<-z]at hb'
   have hbs:=hf b hb
   cases tt with
   | true=>
    have hq':SqT X.K H a xs:=hq;rcases hq' with(q | ⟨o,q⟩) | ⟨o,its,n,q,_⟩
    ·rw[hb']at q;cases q
    ·rw[hb']at q;cases q
    ·rcases hbs.2.2.2.1 with z1 | z1
     ·exact I.ok.noex a o (I.ok.mod.kin a o q) (z▸z1)
     ·exact absurd (Nat.lt_of_lt_of_le (Heap.lt_size (I.ok.bs a o (I.ok.mod.kin a o q)).1) (z▸z1)) (Nat.lt_irrefl _)
   | false=>
    have hq':SqL X.K H a xs:=hq;rcases hq' with(q | ⟨o,q⟩) | ⟨o,its,n,q,_⟩
    ·rw[hb']at q;cases q
    ·rw[hb']at q;cases q
    ·rcases hbs.2.2.2.1 with z1 | z1
     ·exact I.ok.noex a o (I.ok.mod.kin a o q) (z▸z1)
     ·exact absurd (Nat.lt_of_lt_of_le (Heap.lt_size (I.ok.bs a o (I.ok.mod.kin a o q)).1) (z▸z1)) (Nat.lt_irrefl _)
  have hea:e≠a:=λz=>hne e (by simp) z.symm
  have hia:it≠a:=λz=>hne it (by simp) z.symm
  cases tt with
  | true=>
   have hq':SqT X.K H a xs:=hq;obtain⟨its,rv,p,hz⟩:=I.tuple hq'
   exact key its rv (λys hy=>I.tuple_inj hy hq') _ _ (Enu.tupDraws (A:=X.A.in1) (I.ok.hd hc) it a (Ne.symm hia) its.toArray) (by simp[hei,hea]) (by simp) ⟨hi,p⟩ λh' z=>z.1
  | false=>
   have hq':SqL X.K H a xs:=hq;obtain⟨its,rv,p,hz⟩:=I.list hq';exact key its rv (λys hy=>I.list_inj hy hq') _ _ (Draws.list (A:=X.A.in1) (I.ok.hd hc) it a (Ne.symm hia) its.toArray) (by simp[hei,hea]) (by simp) ⟨hi,p.isList⟩ λh' z=>z.1
 done:=by
  intro X hP hw hK hc i pins s σ H E I hf st hg;subst hP hw hK;obtain⟨xs,hq,hx⟩:=hg;obtain⟨⟨old,he⟩,hi⟩:=st
  have fin:∀h',Heap.ExtBut it s.heap h'->(none:Option Value)=none/\Inv X pins σ H { s with heap:=h' }:=λh' eb=>⟨rfl,I.turnedL (t':=s.toks) hf λb o hb q=>eb b o (λz=>hb (by simp[z])) q⟩
  cases tt with
  | true=>
   have hq':SqT X.K H a xs:=hq;obtain⟨its,rv,p,hz⟩:=I.tuple hq'
   have hl:=rv.length
   have hnone:its.toArray[i]? =none:=by simp;omega
   have hT:s.TypeIs (.ref e) "enumerate":=⟨_,he,rfl⟩;unfold pyNext;refine wpAny_bind (wpAny_attempt (wpAny_callSpecial?_slot (name:=Str.ofString "__next__") hT F.slot_enumerate_next (wpAny_call_entry F.slot_enumerate_next hT F.entry_enumerate_next ?_ (F.args_enumerate_next_1 _))))
   show wpAny (model X.prog X.w) _ (field (.ref e) 2 >>= _) _ _ _
   refine wpAny_bind (wpAny_field he rfl (x:=.ref it) rfl ?_)
   refine wpAny_bind (Enu.tupStop (I.ok.hd hc) hi p hnone λh' x he' hx'=> ?_)
   obtain⟨o,ho,hcl⟩:=hx'
   exact wpAny_bind (wpAny_isInstance (T:="StopIteration") (b:=true) ⟨o,ho,hcl⟩ isSubtype_stop (wpAny_pure (fin h' he')))
  | false=>
   have hq':SqL X.K H a xs:=hq;obtain⟨its,rv,p,hz⟩:=I.list hq'
   have hl:=rv.length
   have hnone:its.toArray[i]? =none:=by simp;omega
   exact wpAny_pyNext_enum_end (I.ok.hd hc) he hi p.isList hnone fin
 self:=λ_ _ _ _ _ st h=>by
  obtain⟨⟨old,he⟩,_⟩:=st;exact wpAny_pyIter_enum he h
section
variable {X:Cx}{elts:List Expr}{kk:Nat}{tpos:Pos}
theorem lv:bootBuiltins "enumerate" =some (.type "enumerate"):=by decide+kernel
def iEnu (K:PySem.W.Frag)(tl:TA):TI:=λσ H R=>tl σ H λvs H1=> ∃a tt,vs= [.ref a]/\(∃xs,yn K H1 a tt xs)/\R (Cn K a tt) H1
theorem wO {l:Expr}{tl:TA}{p pos:Pos}(hg:Gl X "enumerate")(hm:X.mg "enumerate" =none)(hl:PA X [l] tl)(hs:starEach [l] X.env= [(false,eval l X.env)]:=by rfl):PI X (.Tuple elts kk tpos) (.Call (.Name "enumerate" p) [l] [] pos) (iEnu X.K tl):=by
 intro pins s σ H R I h;refine Call_ (fq I hg hm lv (PyProof.Rows.callWith_type1 (cf (hl pos pins s σ H _ I h) λus s1 ⟨vs,H1,I1,r1,q1⟩=> ?_) hs rfl))
 obtain⟨a,tt,e,⟨xs,hq⟩,q⟩:=q1;subst e;obtain⟨u,rfl,ru⟩:=iH r1;cases ru
 have fin:∀h',IsEnum h' (s1.heap.objs.size+1) s1.heap.objs.size 0 .none->itAt tt h' s1.heap.objs.size a 0->h'.objs.size=s1.heap.objs.size+2->(∀b o,s1.heap.get? b=some o->h'.get? b=some o) →
   wpAny (model X.prog X.w) X.A (pyIter (.ref (s1.heap.objs.size+1))) (PIE X pins σ (.Tuple elts kk tpos) R) X.xe { s1 with heap:=h' }:=λh' he hi hsz hk=>by
  refine wpAny_pyIter_enum he ?_
  have I2:Inv X pins σ H1 { s1 with heap:=h' }:=I1.kept (t':=s1.toks) hk
  refine⟨s1.heap.objs.size+1,[s1.heap.objs.size+1,s1.heap.objs.size],_,_,H1,rfl,I2,rG tt a (s1.heap.objs.size+1) s1.heap.objs.size (Nat.succ_ne_self _),⟨⟨_,he⟩,hi⟩,λb hb=> ?_,q⟩
  rcases List.mem_cons.mp hb with rfl | hb
  ·exact I1.fpOk (by omega) (I1.hok.fresh (by omega))
  ·rw[List.mem_singleton.mp hb];exact I1.fpOk (Nat.le_refl _) (I1.hok.fresh (Nat.le_refl _))
 cases tt with
 | true=>
  have hq':SqT X.K H1 a xs:=hq;obtain⟨its,rv,pl,hz⟩:=I1.tuple hq'
  exact Enu.callT pl λh' he hi hsz hk=>fin h' he hi hsz hk
 | false=>
  have hq':SqL X.K H1 a xs:=hq;obtain⟨its,rv,pl,hz⟩:=I1.list hq';exact call_enumerate_list pl.isList λh' he hi hsz hk=>fin h' he hi hsz hk
end
end L2
namespace Tr
open PySem PySem.Spec PyProof.Rows L2
section
variable {X:Cx}{a:Expr}{fa:En->Rs T}{fs:En->Rs (List T)}{p pos:Pos}
def iS (f:En->Rs T)(Z:En):Rs (List T):=do
 let x <-f Z
 match x with
 | .lst l=> .ok l
 | .tup l=> .ok l
 | _=> .bad
theorem yW {tg:Expr}(ha:cg X a fa):xO X tg a (iS fa):=by
 intro pins s σ H R I ⟨Z,O,E,h⟩;unfold iS at h
 cases q:fa Z with
 | bad=>rw[q]at h;exact h.elim
 | err c=>exact qz ha pins s σ H R I ⟨Z,O,E,by unfold iL;rw[q]at h ⊢;exact h⟩
 | ok x=>
  rw[q,aC]at h
  cases x with
  | lst l=>exact qz ha pins s σ H R I ⟨Z,O,E,by unfold iL;rw[q];exact h⟩
  | tup l=>exact yV ha pins s σ H R I ⟨Z,O,E,by unfold iT;rw[q];exact h⟩
  | _=>exact h.elim
def bp:Nat->List T->List T
 | _,[] => []
 | n,t::r=> .tup [.int n,t] ::bp (n+1) r
theorem mn:∀(l:List T) (n i:Nat),(bp n l)[i]? =(l[i]?).map λt=>T.tup [.int ((n+i:Nat):Int),t]
 | [],n,i=>by simp[bp]
 | t::l,n,0=>by simp[bp]
 | t::l,n,i+1=>by
  rw[bp,List.getElem?_cons_succ,mn l (n+1) i,List.getElem?_cons_succ]
  congr 2
  funext t
  congr 4
  omega
theorem mm:∀(l:List T) (n:Nat),(bp n l).length=l.length
 | [],n=>rfl
 | t::l,n=>by rw[bp,List.length_cons,List.length_cons,mm l]
def iE (f:En->Rs (List T))(Z:En):Rs (List T):=do
 let xs <-f Z
 match xs with
 | [x] =>match x.items with
  | some l=> .ok (bp 0 l)
  | none=> .bad
 | _=> .bad
theorem wu {elts:List Expr}{kk:Nat}{tpos:Pos}(hm:X.mg "enumerate" =none)(ha:nP X [a] fs)(hg:Gl X "enumerate":=by rfl)(hs:starEach [a] X.env= [(false,eval a X.env)]:=by rfl) :
  xO X (.Tuple elts kk tpos) (.Call (.Name "enumerate" p) [a] [] pos) (iE fs):=PI.imp (wO hg hm ha hs) λσ H R hh_=>by
 obtain⟨Z,O,E,h⟩:=hh_;obtain⟨Z1,O1,E1,h1⟩:=dZ E h;refine⟨Z1,O1,E1,Post.mono h1 λts H1 s1 q vs r=> ?_⟩
 obtain⟨t',r',s',E',q'⟩:=q vs r
 split at q'
 ·rename_i x0
  obtain⟨v,rfl,rv⟩:=r'.one
  split at q'
  ·rename_i l hl
   have main:∀(aa:Addr) (tt:Bool) (ws:List V),v= .ref aa->¬ O aa->Reps X.K O H1 l ws->yn X.K H1 aa tt ws->(∀P Hc,SameO P H1 Hc->¬ P aa->yn X.K Hc aa tt ws)->¬ Nw X.K H1 aa →
     ∃a tt,[v] = [V.ref a]/\(∃xs,yn X.K H1 a tt xs)/\R (Cn X.K a tt) H1:=λaa tt ws e n z sq mv nn=>by
    refine⟨aa,tt,by rw[e],⟨ws,sq⟩,q' H1 (Same.refl H1) _ λP O' hP hO i Hc hsm htr=> ?_⟩
    have hnP:¬ P aa:=λy=>(hP aa y).elim n nn
    have sqc:=mv P Hc hsm hnP;refine⟨λhi=>⟨ws,sqc,by rw[<-z.length,<-mm l 0];exact hi⟩,λt ht=> ?_⟩
    rw[mn]at ht
    cases e1:l[i]? with
    | none=>rw[e1]at ht;cases ht
    | some t0=>
     rw[e1]at ht;cases ht;obtain⟨v0,f1,f2⟩:=z.get e1;refine⟨⟨ws,v0,sqc,f1⟩,λx Hc' y=> ?_⟩
     obtain⟨pp,vv,e2,hpn,e3,hy⟩:=y
     have:=hy ws sqc;rw[f1]at this;cases this;subst e2 e3;refine⟨aP hpn _,fo hpn (λzz=> ?_) (Reps.cons_ (by simpa using Rep.int_ _) (Reps.cons_ (f2.move hP hO hsm) Reps.nil_))⟩
     obtain⟨o,w⟩:=htr pp zz;rw[hpn]at w;cases w
   cases x0 with
   | tup m=>
    cases hl;obtain⟨aa,ws,e,n,qq,z⟩:=Rep.tup_iff.mp rv
    exact main aa true ws e n z (show SqT X.K H1 aa ws from SqT.of qq) (λP Hc hsm hn=>show SqT X.K Hc aa ws from SqT.of (hsm _ _ qq hn)) λw=>by rw[w.1]at qq;cases qq
   | lst m=>
    cases hl;obtain⟨aa,ws,e,n,qq,z⟩:=Rep.lst_iff.mp rv
    exact main aa false ws e n z (show SqL X.K H1 aa ws from SqL.of qq) (λP Hc hsm hn=>show SqL X.K Hc aa ws from SqL.of (hsm _ _ qq hn)) λw=>by rw[w.1]at qq;cases qq
   | scr m=>
    cases hl;unfold Rep at rv;obtain⟨aa,e,n,qq⟩:=rv
    exact main aa false _ e n Reps.ints (show SqL X.K H1 aa _ from qq) (λP Hc hsm hn=>show SqL X.K Hc aa _ from Tr.SqL.keep hsm hn qq) (Tr.SqL.nn qq)
   | _=>cases hl
  ·exact q'.elim
 ·exact q'.elim
end
end Tr
namespace Tm
open PySem PyProof.Rows
theorem jn:fillsNumberSlot (.type "tuple") "mul" =pure false:=
 PySem.fillsNumberSlot_seq (id:="tuple.__mul__") (r:=some (.builtin "tuple.__rmul__")) F.slot_tuple_mul.lookup (by decide+kernel) F.slot_tuple_rmul.lookup (by decide+kernel)
theorem mV:seqRepeat? (.type "tuple")=pure (some (.builtin "tuple.__mul__")):=by
 unfold seqRepeat?;rw[PySem.seqSlot_of (T:="tuple") (name:="__mul__") (id:="tuple.__mul__") F.slot_tuple_mul.lookup (by decide+kernel),PySem.seqSlot_of (T:="tuple") (name:="__rmul__") (id:="tuple.__rmul__") F.slot_tuple_rmul.lookup (by decide+kernel)]
 rfl
theorem pR (a:Int)(t:Tok)(l:Addr)(items:Array Value)(n:Nat)(dd:Option Addr)(sl:Array (Option Value)) :
  Meets (Builtin.«int.__rmul__» ⟨[.int a t,.ref l],[]⟩) (λ_ R s=>s.heap.get? l=some { cls:=.type "tuple",dict:=dd,data:=.seq items n,slots:=sl }/\R (.ok (.ret Value.notImplemented)) s):=
 .of_wp λprog w A R s h=>by obtain⟨hp,g,d,tk,os⟩:=s;obtain⟨hl,h⟩:=h;wp_walk;exact⟨_,rfl,h⟩
open AutoSeq1 (wpAny_loadPart')
theorem ur (l:Addr)(items:Array Value)(n:Nat)(dd:Option Addr)(sl:Array (Option Value))(x:Int)(u:Tok)(h1:1<x)(h2:x<2 ^ 31)(hne:items.isEmpty=false)(hz:items.size*x.toNat<=sizeLine)
  (hz2:(List.foldl (λa b=>a++b) #[] (List.replicate x.toNat items)).size<=sizeLine) :
  Meets (Builtin.«tuple.__mul__» ⟨[.ref l,.int x u],[]⟩) (λ_ R s=>s.heap.get? l=some { cls:=.type "tuple",dict:=dd,data:=.seq items n,slots:=sl } ∧
   R (.ok (.ret (Value.ref s.heap.objs.size))) { s with heap:=s.heap.push { cls:=Value.type "tuple",data:=Data.seq (List.foldl (λa b=>a++b) #[] (List.replicate x.toNat items)) } }):=
 .of_wp λprog w A R s h=>by
  obtain⟨hp,g,d,tk,os⟩:=s;obtain⟨hl,h⟩:=h
  have hT:IsTup hp l items:=⟨_,hl,rfl,n,rfl⟩
  have hx:((items.size:Nat):Int)*x=((items.size*x.toNat:Nat):Int):=by
   have e:x=((x.toNat:Nat):Int):=by omega
   rw[Int.natCast_mul,<-e]
  wp_walk using wpAny_loadPart' hl
  rw[if_neg (by simp;omega)]
  refine wpAny_bind (tupleItemsOf_ (s:=⟨hp,g,d,tk,os⟩) hT ?_)
  dsimp only
  rw[if_neg (by rw[hne];simp;omega),if_neg (by rw[hne];simp;omega),hx,if_neg (by have:(sizeLine:Nat)<=1000000000:=(by decide);omega),if_neg (by unfold Builtin.Tuple.tupleTooMany;rw[decide_eq_true_iff];omega)]
  refine wpAny_bind (m:=Builtin.Tuple.tupleExact _) (wpAny_newObj_type ?_ hz2)
  exact wpAny_pure ⟨_,rfl,h⟩
section
variable {prog:Program}{w:World}{A:Around}{E:Value->Shared->Prop}{s:Shared}
theorem mul_tuple {t:Addr}{vs:List Value}{k:Int}{tk:Tok}{Q:Value->Shared->Prop}(ht:IsTup s.heap t vs.toArray)(h1:1<k)(h2:k<2 ^ 31)(hv:vs≠ [])(hz:vs.length*k.toNat<=sizeLine)
  (h:Q (.ref s.heap.objs.size) { s with heap:=s.heap.push { cls:=.type "tuple",data:=.seq (List.replicate k.toNat vs).flatten.toArray } }) :
  wpAny (model prog w) A (binaryOp .Mult (.ref t) (.int k tk)) Q E s:=by
 obtain⟨⟨cls,dd,data,sl⟩,ho,hc,n,hd⟩:=id ht;simp only at hc hd;subst hc hd
 have e:List.foldl (λa b=>a++b) #[] (List.replicate k.toNat vs.toArray)=(List.replicate k.toNat vs).flatten.toArray:=by
  have q:=L2.foldl_rep vs k.toNat []
  simpa using q
 refine wpAny_binaryOp_repeat_ref (T:="tuple") (U:="int") (by decide) ⟨_,ho,rfl⟩ (λs'=>typeIs_int s' k tk) jn F.fills_int_mul F.slot_int_rmul mV F.slot_int_index.lookup
  (call_meets F.slot_int_rmul (typeIs_int s k tk) F.entry_int_rmul (F.args_int_rmul_2 _ _) (pR k tk t vs.toArray n dd sl)
   ⟨ho,rfl,⟨_,ho,rfl⟩,call_meets F.slot_tuple_mul ⟨_,ho,rfl⟩ F.entry_tuple_mul (F.args_tuple_mul_2 _ _) (ur t vs.toArray n dd sl k tk h1 h2 (by simpa using hv) (by simpa using hz) (by rw[e,List.size_toArray,L2.len_rep,Nat.mul_comm];exact hz)) ⟨ho,?_⟩⟩)
 rw[e];exact h
end
end Tm
namespace Tr
open PySem PySem.Spec PyProof.Rows L2
section
variable {X:Cx}
def bL (x y:T):Rs T:=match x,y with
 | .tup l,.int k=>if 1<k/\k<2 ^ 31/\l≠ []/\l.length*k.toNat<=sizeLine then .ok (.tup (List.replicate k.toNat l).flatten)else .bad
 | x,y=>pZ x y
instance (l:List T):Decidable (l≠ []):=by cases l <;> simp <;> infer_instance
theorem cV:OpT X (binaryOp .Mult) bL:=by
 intro pins s σ H O x y vx vy ux uy Q I hf rx ry r1 r2 hp;unfold bL at hp
 split at hp
 ·rename_i l k
  split at hp
  ·rename_i h
   obtain⟨a,vs,e1,n1,q1,z1⟩:=Rep.tup_iff.mp rx;subst e1;cases Rep.int_iff.mp ry;cases r1;obtain⟨tk,rfl⟩:=r2;obtain⟨its,rv,pl,hz⟩:=I.tuple (SqT.of q1)
   have hl1:=z1.length
   have hl2:=rv.length
   have hne:its≠ []:=λz=>h.2.2.1 (List.eq_nil_of_length_eq_zero (by rw[hl1,hl2,z];rfl))
   refine Tm.mul_tuple pl h.1 h.2.1 hne (by rw[<-hl2,<-hl1];exact h.2.2.2) ?_
   have hn:=I.hok.fresh (Nat.le_refl _);refine⟨.ref _,_,I.laid (t':=s.toks) (o:=.tup (List.replicate k.toNat vs).flatten) (λb ob q=>Heap.get?_push_of_some _ q) (Nat.le_refl _) ?_,rfl,hp _ (aP hn _) _ (fo hn (hf _ hn) (z1.rep _))⟩
   refine⟨?_,_,rv.rep k.toNat,IsTup.new _ _⟩
   rw[len_rep,Nat.mul_comm,<-hl1];exact h.2.2.2
  ·exact hp.elim
 ·exact zn pins s σ H O _ _ vx vy ux uy Q I hf rx ry r1 r2 hp
end
def Bu (outer:List (Str×NameKind))(N:List Str)(names:List (Str×NameKind))(N':List Str)(src:List (Option Nat)):Bool:=
 names.all (λy=>y.2 != .cell||names.lookup y.1 == some .cell)&&names.all (λy=>y.2 != .local||names.lookup y.1 == some .local)&&src.length == N'.length&&
 (List.range N'.length).all (λj=>match src[j]? with
  | some (some i)=>match N'[j]? with
   | some x=>N[i]? == some x&&names.lookup x == some .free
   | none=>true
  | _=>true)&&
 names.all (λy=>y.2 != .free||(outer.lookup y.1 == some .cell||outer.lookup y.1 == some .free))
theorem LcScope.by {X:Cx}{scope:Scope}{N N':List Str}{src:List (Option Nat)}{names:List (Str×NameKind)}(hN:X.N=N)(hs:X.env.scope.names=names)(hk:scope.kind= .function)(h:Bu names N scope.names N' src=true):LcScope X scope N' src:=by
 unfold Bu at h;simp only[Bool.and_eq_true]at h;obtain⟨⟨⟨⟨h1,h2⟩,h3⟩,h4⟩,h5⟩:=h
 have a1:=List.all_eq_true.mp h1
 have a2:=List.all_eq_true.mp h2
 have a4:=List.all_eq_true.mp h4
 have a5:=List.all_eq_true.mp h5;refine⟨hk,λy hy hl=>by have:=a1 y hy;rw[hl]at this;simpa using this,λy hy hl=> ?_,by simpa using h3,λj i x e1 e2=> ?_,λx hx=> ?_⟩
 ·have:=a2 y hy
  rw[hl]at this
  simpa using this
 ·have hj:j<N'.length:=(List.getElem?_eq_some_iff.mp e2).1
  have:=a4 j (List.mem_range.mpr hj);rw[e1]at this;simp only[e2]at this;rw[Bool.and_eq_true]at this;rw[hN];exact⟨by simpa using this.1,by simpa using this.2⟩
 ·have:=a5 _ hx
  simp only[bne_self_eq_false,Bool.false_or,Bool.or_eq_true]at this
  show X.env.scope.names.lookup x=_\/X.env.scope.names.lookup x=_
  rw[hs];rcases this with z | z
  ·exact .inl (by simpa using z)
  ·exact .inr (by simpa using z)
def bS:Expr->Bool
 | .Starred .. =>false
 | _=>true
def aZ:List Expr->Bool
 | [] =>true
 | e::r=>bS e&&aZ r
theorem bh {e:Expr}{es:List Expr}{env:Env}(h:bS e=true):starEach (e::es) env=(false,eval e env)::starEach es env:=by
 cases e <;> first | rfl | cases h
theorem e9 {pos:Pos}{env:Env}:∀{es:List Expr},aZ es=true->(backTo pos (starEach es env)).any (·.1)=false
 | [],_=>rfl
 | e::r,h=>by
  unfold aZ at h;rw[Bool.and_eq_true]at h;rw[bh h.1]
  have ih:=e9 (pos:=pos) (env:=env) h.2
  show(false||(backTo pos (starEach r env)).any (·.1))=false
  rw[ih];rfl
section
variable {X:Cx}{a b e:Expr}{es:List Expr}{fa:En->Rs T}{fs:En->Rs (List T)}{pos p p2:Pos}{x:Str}
theorem qa_c {f:En->Rs T}{g:En->Rs (List T)}(he:cg X e f)(hr:nP X es g)(hn:bS e=true:=by rfl):nP X (e::es) (ac f g):=wy he hr (bh hn)
theorem q_cB {id:String}{g:List T->Rs T}(hc:CallT X (.builtin id) g)(hm:X.mg x=none)(hv:bootBuiltins x=some (.builtin id))(ha:nP X (e::es) fs)(hn:aZ (e::es)=true:=by rfl)(hg:Gl X x:=by rfl)(h1:x≠ "__name__":=by decide)(h2:(x == ("__debug__" : Str))=false:=by decide) :
  cg X (.Call (.Name x p) (e::es) [] pos) (cl g fs):=by
 unfold aZ at hn;rw[Bool.and_eq_true]at hn;exact wB hc hm hv ha hg h1 h2 (bh hn.1) (e9 hn.2)
theorem q_cT {Ty:String}{g:List T->Rs T}(hc:CallT X (.type Ty) g)(hm:X.mg x=none)(hv:bootBuiltins x=some (.type Ty))(ha:nP X (e::es) fs)(hn:aZ (e::es)=true:=by rfl)(hg:Gl X x:=by rfl)(h1:x≠ "__name__":=by decide)(h2:(x == ("__debug__" : Str))=false:=by decide) :
  cg X (.Call (.Name x p) (e::es) [] pos) (cl g fs):=by
 unfold aZ at hn;rw[Bool.and_eq_true]at hn;exact tL hc hm hv ha hg h1 h2 (bh hn.1) (e9 hn.2)
theorem q_c {n k:Nat}{f:Addr}{fd:FuncData}{ps:List Str}{g:List T->Rs T}(F:Aq X.prog X.w X.K X.mg X.base k f fd ps n g)(hr:Room k X.A)(hm:X.mg x=some (.ref f))(hk:PySem.W.keepIn X.K (.ref f)=true)(hb:Binds X.K fd ps [])
  (hl:∀Z ts,fs Z= .ok ts->ts.length=n) (ha:nP X (e::es) fs) (hps:ps.length=n:=by rfl) (hn:aZ (e::es)=true:=by rfl) (hg:Gl X x:=by rfl) (h2:(x == ("__debug__" : Str))=false:=by decide):cg X (.Call (.Name x p) (e::es) [] pos) (cl g fs):=by
 unfold aZ at hn;rw[Bool.and_eq_true]at hn;exact y6 F hr hm hk hb hps hl ha hg h2 (bh hn.1) (e9 hn.2)
theorem q_is {tn:Str}{Ty:String}(hm:X.mg "isinstance" =none)(hmt:X.mg tn=none)(hv:bootBuiltins tn=some (.type Ty))(ha:cg X a fa)(hn:bS a=true:=by rfl)(hg:Gl X "isinstance":=by rfl)(hgt:Gl X tn:=by rfl)
  (h1:tn≠ "__name__":=by decide) (h2:(tn == ("__debug__" : Str))=false:=by decide):cg X (.Call (.Name "isinstance" p) [a,.Name tn p2] [] pos) (o1 (uP Ty) fa):=
 A6 hm hmt hv ha hg hgt h1 h2 (bh hn) (e9 rfl) (bh rfl)
end
theorem B2 (Z:En)(ts:List T)(h:ah Z= .ok ts):ts.length=0:=by cases h;rfl
theorem B1 {n:Nat}{f:En->Rs T}{g:En->Rs (List T)}(hg:∀Z ts,g Z= .ok ts->ts.length=n)(Z:En)(ts:List T)(h:ac f g Z= .ok ts):ts.length=n+1:=by
 unfold ac at h
 cases q:f Z with
 | bad=>rw[q]at h;cases h
 | err c=>rw[q]at h;cases h
 | ok t=>
  rw[q,aC]at h
  cases q2:g Z with
  | bad=>rw[q2]at h;cases h
  | err c=>rw[q2]at h;cases h
  | ok r=>
   rw[q2,aC]at h;cases h;rw[List.length_cons,hg Z r q2]
theorem jX {k:Nat}{A:Around}(h:Room k A):A.units+60<cLine:=by have:=h.un;omega
theorem zW {k:Nat}{A:Around}(h:Room k A):A.units+61<cLine:=by have:=h.un;omega
structure Fn (K:PySem.W.Frag)(mg:Str->Option Value)(x:Str)(st:Stmt)(ps:List Str)(f:Addr)(fd:FuncData):Prop where
 fn:L2.Fun K x x st f fd
 bd:Binds K fd ps []
 mg:mg x=some (.ref f)
def val (n m:Nat)(F:En->Rs Fl)(ts:List T):Rs T:=if ts.length=n then bf F (aI m ts)else .bad
theorem yw {n m:Nat}{F:En->Rs Fl}{ts:List T}{t:T}(h:val n m F ts= .ok t):bf F (aI m ts)= .ok t:=by
 unfold val at h
 split at h
 ·exact h
 ·cases h
theorem sp_script {K:PySem.W.Frag}{H:Hp}{a:Addr}{ns:List Int}{g:List T->Rs T}{E:XK}(hS:SqL K H a (ns.map V.int))(h:g [.scr ns] = .ok (.bl true)):spP K 1 g [.ref a] H (λv _=>v= .bl true) E:=by
 refine⟨[.scr ns],λ_=>False,Reps.cons_ ?_ Reps.nil_,λ_ z=>z.elim,rfl,?_⟩
 ·unfold Rep;exact⟨a,rfl,λz=>z,hS⟩
 ·rw[h];exact λv H' _ r=>Rep.bl_iff.mp r
theorem oj {α:Type}{l:List α}{i:Nat}{z:α}(h:l[i]? =some z):l.set i z=l:=by
 obtain⟨hi,rfl⟩:=List.getElem?_eq_some_iff.mp h
 exact List.set_getElem_self hi
def Mn.set (M:Mn)(i:Nat)(m:Ow):Mn:=λj=>if j=i then m else M j
theorem Mn.set_u {M:Mn}{i:Nat}{m:Ow}{a:Addr}(h:(M.set i m).u a):m a\/M.u a:=by
 obtain⟨j,h⟩:=h;unfold Mn.set at h
 by_cases z:j=i
 ·rw[if_pos z]at h;exact .inl h
 ·rw[if_neg z]at h;exact .inr ⟨j,h⟩
theorem Mn.set_at {M:Mn}{i:Nat}{m:Ow}:M.set i m i=m:=by unfold Mn.set;rw[if_pos rfl]
theorem Mn.set_ne {M:Mn}{i j:Nat}{m:Ow}(h:j≠i):M.set i m j=M j:=by unfold Mn.set;rw[if_neg h]
theorem RowsR.move {K:PySem.W.Frag}{O O' P:Ow}{H H':Hp}(hP:∀a,P a->O a\/Nw K H a)(hO:∀a,O' a->O a\/Nw K H a)(h:SameO P H H'):∀{rs:List (List T×List T)} {as:List Addr},(∀b∈as,¬P b)->RowsR K O H rs as->RowsR K O' H' rs as
 | [],_,_,r=>r
 | _::_,_,hb,⟨b,bs,kvs,e1,e2,e3,e4,e5⟩=>by
  subst e1;exact⟨b,bs,kvs,rfl,h _ _ e2 (hb b List.mem_cons_self),e3,e4.move hP hO h,e5.move hP hO h λc hc=>hb c (List.mem_cons_of_mem _ hc)⟩
theorem ORep.move {K:PySem.W.Frag}{O O' P M:Ow}{H H':Hp}{o:OT}{v:V}(hP:∀a,P a->O a\/Nw K H a)(hO:∀a,O' a->O a\/Nw K H a)(h:SameO P H H')(hM:∀a,M a->¬ P a)(r:ORep K O M H o v):ORep K O' M H' o v:=by
 cases o with
 | lst l=>obtain⟨a,vs,e1,e2,e3,e4⟩:=r;exact⟨a,vs,e1,e2,h _ _ e3 (hM a ((e2 a).mpr rfl)),e4.move hP hO h⟩
 | dct ks ts=>obtain⟨a,kvs,e1,e2,e3,e4,e5⟩:=r;exact⟨a,kvs,e1,e2,h _ _ e3 (hM a ((e2 a).mpr rfl)),e4,e5.move hP hO h⟩
 | dd ks rows=>
  obtain⟨a,kvs,as,e1,e2,e3,e4,e5,e6,e7,e8⟩:=r;exact⟨a,kvs,as,e1,e2,e3,e4,h _ _ e5 (hM a ((e2 a).mpr (.inl rfl))),e6,e7,e8.move hP hO h λb hb=>hM b ((e2 b).mpr (.inr hb))⟩
theorem RowsR.mtb {K:PySem.W.Frag}{O:Ow}{H:Hp}:∀{rs:List (List T×List T)} {as:List Addr},RowsR K O H rs as->∀b∈as,∃kvs,H b=some (.dT kvs)
 | [],_,r,b,hb=>by unfold RowsR at r;subst r;simp at hb
 | _::_,_,⟨b0,bs,kvs,e1,e2,e3,e4,e5⟩,b,hb=>by
  subst e1;rcases List.mem_cons.mp hb with rfl | hb
  ·exact⟨kvs,e2⟩
  ·exact e5.mtb b hb
def OT.isD:OT->Bool
 | .lst _=>false
 | _=>true
theorem ORep.kind {K:PySem.W.Frag}{O M:Ow}{H:Hp}{o:OT}{v:V}(r:ORep K O M H o v):∀a,M a->if o.isD then ∃kvs,H a=some (.dT kvs)else ∃vs,H a=some (.lst vs):=λa z=>by
 cases o with
 | lst l=>obtain⟨b,vs,e1,e2,e3,e4⟩:=r;cases (e2 a).mp z;exact⟨vs,e3⟩
 | dct ks ts=>obtain⟨b,kvs,e1,e2,e3,e4,e5⟩:=r;cases (e2 a).mp z;exact⟨kvs,e3⟩
 | dd ks rows=>
  obtain⟨b,kvs,as,e1,e2,e3,e4,e5,e6,e7,e8⟩:=r
  rcases(e2 a).mp z with z | z
  ·cases z;exact⟨kvs,e5⟩
  ·exact e8.mtb a z
theorem ORep.mtb {K:PySem.W.Frag}{O M:Ow}{H:Hp}{o:OT}{v:V}(r:ORep K O M H o v)(a:Addr)(z:M a):Mtb H a:=by
 have:=r.kind a z
 split at this
 ·exact .inr this
 ·exact .inl this
theorem oy {K:PySem.W.Frag}{O:Ow}{H:Hp}:∀{rs:List (List T×List T)} {as:List Addr},(∀b∈as,¬O b)->RowsR K O H rs as->Reps K O H (rs.map λr=>T.dct r.1 r.2) (as.map V.ref)
 | [],_,_,r=>by unfold RowsR at r;subst r;exact Reps.nil_
 | _::_,_,hn,⟨b,bs,kvs,e1,e2,e3,e4,e5⟩=>by
  subst e1;exact Reps.cons_ (Rep.dct_iff.mpr ⟨b,kvs,rfl,hn b List.mem_cons_self,e2,e3,e4⟩) (oy (λc hc=>hn c (List.mem_cons_of_mem _ hc)) e5)
theorem RowsR.less {K:PySem.W.Frag}{O O':Ow}{H:Hp}(sub:∀a,O' a->O a):∀{rs:List (List T×List T)} {as:List Addr},RowsR K O H rs as->RowsR K O' H rs as
 | [],_,r=>r
 | _::_,_,⟨b,bs,kvs,e1,e2,e3,e4,e5⟩=>⟨b,bs,kvs,e1,e2,e3,e4.less sub,e5.less sub⟩
theorem ORep.rep {K:PySem.W.Frag}{O O' M:Ow}{H:Hp}{o:OT}{v:V}(sub:∀a,O' a->O a)(hn:∀a,M a->¬ O' a)(r:ORep K O M H o v):Rep K O' H o.view v:=by
 cases o with
 | lst l=>obtain⟨a,vs,e1,e2,e3,e4⟩:=r;exact Rep.lst_iff.mpr ⟨a,vs,e1,hn a ((e2 a).mpr rfl),e3,e4.less sub⟩
 | dct ks ts=>obtain⟨a,kvs,e1,e2,e3,e4,e5⟩:=r;exact Rep.dct_iff.mpr ⟨a,kvs,e1,hn a ((e2 a).mpr rfl),e3,e4,e5.less sub⟩
 | dd ks rows=>
  obtain⟨a,kvs,as,e1,e2,e3,e4,e5,e6,e7,e8⟩:=r;refine Rep.dct_iff.mpr ⟨a,kvs,e1,hn a ((e2 a).mpr (.inl rfl)),e5,e6,?_⟩
  rw[e7];exact oy (λb hb=>hn b ((e2 b).mpr (.inr hb))) (e8.less sub)
section
variable {K:PySem.W.Frag}{B:Ow}{M:Mn}{H H':Hp}{Z:En}{σ:L2.St}{i:Nat}{o o':OT}{v:V}{m:Ow}
theorem Ev.new (E:Ev K B M H Z σ)(hl:i<Z.length)(hm:∀a,m a->Nw K H a)(s:Same H H')(r:ORep K (OO B (M.set i m)) m H' o v) :
  Ev K B (M.set i m) H' (Z.set i (.ow o)) (σ.set i (some v))/\∀a,(M.set i m).u a->M.u a\/Nw K H a:=by
 have hls:i<σ.length:=by rw[<-E.env.len];exact hl
 have sub:∀a,(M.set i m).u a->M.u a\/Nw K H a:=λa z=>(Mn.set_u z).elim (λw=> .inr (hm a w)) .inl
 have subO:∀a,OO B (M.set i m) a->OO B M a\/Nw K H a:=λa z=>z.elim (λw=> .inl (.inl w)) λw=>(sub a w).elim (λy=> .inl (.inr y)) .inr
 have cD:∀a,Nw K H a->¬ OO B M a:=λa w z=>by
  obtain⟨o,e⟩:=(E.env.trk a z).some;rw[w.1]at e;cases e
 refine⟨⟨⟨by rw[List.length_set,List.length_set];exact E.env.len,λj t e=> ?_,λj o' e=> ?_,λj a z=> .inr ⟨j,z⟩,λj k a z1 z2=> ?_,λa z=> ?_⟩,λa z=> ?_⟩,sub⟩
 ·by_cases hj:i=j
  ·subst hj;rw[List.getElem?_set_self hl]at e;cases e
  ·rw[List.getElem?_set_ne hj]at e
   obtain⟨w,e1,e2⟩:=E.env.val j t e;exact⟨w,by rw[List.getElem?_set_ne hj];exact e1,(e2.more subO).same s⟩
 ·by_cases hj:i=j
  ·subst hj
   rw[List.getElem?_set_self hl]at e
   cases e;exact⟨v,List.getElem?_set_self hls,by rw[Mn.set_at];exact r⟩
  ·rw[List.getElem?_set_ne hj]at e
   obtain⟨w,e1,e2⟩:=E.env.own j o' e;refine⟨w,by rw[List.getElem?_set_ne hj];exact e1,?_⟩
   rw[Mn.set_ne (λz=>hj z.symm)]
   exact(e2.move (P:=sL) (λ_ z=>z.elim) subO (λb u q _=>q) λ_ _ z=>z).same s
 ·unfold Mn.set at z1 z2
  by_cases hj:j=i
  ·by_cases hk:k=i
   ·exact hj.trans hk.symm
   ·rw[if_pos hj]at z1;rw[if_neg hk]at z2
    exact(cD a (hm a z1) (.inr ⟨k,z2⟩)).elim
  ·by_cases hk:k=i
   ·rw[if_neg hj]at z1;rw[if_pos hk]at z2
    exact(cD a (hm a z2) (.inr ⟨j,z1⟩)).elim
   ·rw[if_neg hj]at z1;rw[if_neg hk]at z2
    exact E.env.dis j k a z1 z2
 ·rcases z with z | z
  ·exact(E.env.trk a (.inl z)).same s
  ·rcases Mn.set_u z with w | w
   ·exact r.mtb a w
   ·exact(E.env.trk a (.inr w)).same s
 ·intro hb
  rcases Mn.set_u z with w | w
  ·exact cD a (hm a w) (.inl hb)
  ·exact E.mine a w hb
theorem Ev.put (E:Ev K B M H Z σ)(hi:Z[i]? =some (.ow o))(hs:σ[i]? =some (some v))(s:SameO (M i) H H')(r:ORep K (OO B M) (M i) H' o' v):Ev K B M H' (Z.set i (.ow o')) σ/\SameO M.u H H':=by
 have hl:i<Z.length:=(List.getElem?_eq_some_iff.mp hi).1
 have inO:∀a,M i a->OO B M a\/Nw K H a:=λa z=> .inl (.inr ⟨i,z⟩)
 have idO:∀a,OO B M a->OO B M a\/Nw K H a:=λa z=> .inl z
 refine⟨⟨⟨by rw[List.length_set];exact E.env.len,λj t e=> ?_,λj o2 e=> ?_,E.env.sub,E.env.dis,λa z=> ?_⟩,E.mine⟩,λb u e n=>s b u e λz=>n ⟨i,z⟩⟩
 ·by_cases hj:i=j
  ·subst hj;rw[List.getElem?_set_self hl]at e;cases e
  ·rw[List.getElem?_set_ne hj]at e
   obtain⟨w,e1,e2⟩:=E.env.val j t e;exact⟨w,e1,e2.move inO idO s⟩
 ·by_cases hj:i=j
  ·subst hj
   rw[List.getElem?_set_self hl]at e
   cases e;exact⟨v,hs,r⟩
  ·rw[List.getElem?_set_ne hj]at e
   obtain⟨w,e1,e2⟩:=E.env.own j o2 e;exact⟨w,e1,e2.move inO idO s λa z y=>hj (E.env.dis i j a y z)⟩
 ·by_cases hz:M i a
  ·exact r.mtb a hz
  ·rcases E.env.trk a z with⟨vs,e⟩ | ⟨kvs,e⟩
   ·exact .inl ⟨vs,s _ _ e hz⟩
   ·exact .inr ⟨kvs,s _ _ e hz⟩
def disown (i:Nat)(Z:En):En:=match Z[i]? with
 | some (.ow o)=>Z.set i (.va o.view)
 | _=>Z
theorem EnvM.disown {O O':Ow}{Z:En}(E:EnvM K O M H Z σ)(i:Nat)(sub:∀a,O' a->O a)(hn:∀a,M i a->¬ O' a)(hin:∀j a,j≠i->M j a->O' a):EnvM K O' (M.set i sL) H (disown i Z) σ:=by
 have base:EnvM K O' (M.set i sL) H (Z.set i (match Z[i]? with | some (.ow o)=> .va o.view | some x=>x | none=> .em)) σ:=by
  refine⟨by rw[List.length_set];exact E.len,λj t e=> ?_,λj o e=> ?_,λj a z=> ?_,λj k a z1 z2=> ?_,λa z=>E.trk a (sub a z)⟩
  ·by_cases hj:i=j
   ·subst hj
    by_cases hl:i<Z.length
    ·rw[List.getElem?_set_self hl]at e
     cases q:Z[i]? with
     | none=>rw[q]at e;cases e
     | some z=>
      rw[q]at e
      cases z with
      | em=>cases e
      | va t'=>cases e;obtain⟨w,e1,e2⟩:=E.val i _ q;exact⟨w,e1,e2.less sub⟩
      | ow o=>cases e;obtain⟨w,e1,e2⟩:=E.own i _ q;exact⟨w,e1,e2.rep sub hn⟩
    ·rw[List.getElem?_eq_none (by rw[List.length_set];omega)]at e;cases e
   ·rw[List.getElem?_set_ne hj]at e
    obtain⟨w,e1,e2⟩:=E.val j t e;exact⟨w,e1,e2.less sub⟩
  ·by_cases hj:i=j
   ·subst hj
    by_cases hl:i<Z.length
    ·rw[List.getElem?_set_self hl]at e
     cases q:Z[i]? with
     | none=>rw[q]at e;cases e
     | some z=>
      rw[q]at e
      cases z with
      | em=>cases e
      | va t'=>cases e
      | ow o=>cases e
    ·rw[List.getElem?_eq_none (by rw[List.length_set];omega)]at e;cases e
   ·rw[List.getElem?_set_ne hj]at e
    obtain⟨w,e1,e2⟩:=E.own j o e;refine⟨w,e1,?_⟩
    rw[Mn.set_ne (λz=>hj z.symm)]
    exact e2.move (P:=sL) (λ_ z=>z.elim) (λa z=> .inl (sub a z)) (λb u q _=>q) λ_ _ z=>z
  ·unfold Mn.set at z
   by_cases hj:j=i
   ·rw[if_pos hj]at z;exact z.elim
   ·rw[if_neg hj]at z;exact hin j a hj z
  ·unfold Mn.set at z1 z2
   by_cases hj:j=i
   ·rw[if_pos hj]at z1;exact z1.elim
   ·by_cases hk:k=i
    ·rw[if_pos hk]at z2;exact z2.elim
    ·rw[if_neg hj]at z1;rw[if_neg hk]at z2;exact E.dis j k a z1 z2
 unfold Tr.disown
 cases q:Z[i]? with
 | none=>rw[q,List.set_eq_of_length_le (List.getElem?_eq_none_iff.mp q)]at base;exact base
 | some z=>
  rw[q]at base
  cases z with
  | em=>rw[oj q]at base;exact base
  | va t=>rw[oj q]at base;exact base
  | ow o=>exact base
theorem Ev.disown (E:Ev K B M H Z σ)(i:Nat):Ev K B (M.set i sL) H (disown i Z) σ/\∀a,(M.set i sL).u a->M.u a:=by
 have sub:∀a,(M.set i sL).u a->M.u a:=λa z=>(Mn.set_u z).elim (λw=>w.elim) id
 refine⟨⟨E.env.disown i (λa z=>z.elim .inl λw=> .inr (sub a w)) (λa z y=> ?_) λj a hj z=> .inr ⟨j,by rw[Mn.set_ne hj];exact z⟩,λa z=>E.mine a (sub a z)⟩,sub⟩
 rcases y with y | ⟨j,y⟩
 ·exact E.mine a ⟨i,z⟩ y
 ·unfold Mn.set at y
  by_cases hj:j=i
  ·rw[if_pos hj]at y;exact y
  ·rw[if_neg hj]at y;exact hj (E.env.dis j i a y z)
end
section
variable {X:Cx}{a:Expr}{es:List Expr}{fa:En->Rs T}{pos p2 p3:Pos}{x:Str}
theorem Ev.subO {K:PySem.W.Frag}{B:Ow}{M:Mn}{H:Hp}{i:Nat}{m:Ow}(hm:∀a,m a->Nw K H a)(a:Addr)(z:OO B (M.set i m) a):OO B M a\/Nw K H a:=
 z.elim (λw=> .inl (.inl w)) λw=>(Mn.set_u w).elim (λy=> .inr (hm a y)) λy=> .inl (.inr y)
theorem w8 {K:PySem.W.Frag}{H H1:Hp}(s:Same H H1){a:Addr}(n:Nw K H1 a):Nw K H a:=(f7 (SameO.of (P:=sL) s) n).elim (λz=>z.elim) id
def AG (X:Cx)(t:TA):TE:=λσ H Q=>t σ H λxs H1=>xs.length<=sizeLine/\∀p,Nw X.K H1 p->Q (.ref p) (upd H1 p (.lst xs))
theorem wR {t:TA}(h:PA X es t):PE X (.List es pos) (AG X t):=by
 intro pins s σ H Q I hq;refine wpAny_List_spliced (cf (h pos pins s σ H _ I hq) λus s1 ⟨xs,H1,I1,r,z,q⟩=>⟨by rw[<-r.length];exact z,?_⟩)
 have hf:H1 s1.heap.objs.size=none:=I1.hok.fresh (Nat.le_refl _)
 have hk:X.K.lookup s1.heap.objs.size=none:=by
  cases q:X.K.lookup s1.heap.objs.size with
  | none=>rfl
  | some o=>exact absurd (Heap.lt_size (I1.kIn _ o q)) (Nat.lt_irrefl _)
 refine⟨.ref s1.heap.objs.size,upd H1 s1.heap.objs.size (.lst xs),I1.laid (t':=s1.toks) (λb u e=>Heap.get?_push_of_some _ e) (Nat.le_refl _) ?_,rfl,q _ ⟨hf,hk⟩⟩
 exact⟨z,us,0,r,Heap.get?_push_size _ rfl⟩
def gx (i:Nat)(f:En->Rs (List T))(Z:En):Rs Fl:=do
 let l <-f Z
 if i<Z.length/\l.length<=sizeLine then .ok (.nx (Z.set i (.ow (.lst l))))else .bad
theorem wj (i:Nat){f:En->Rs (List T)}(hN:X.N.Nodup)(ha:nP X es f)(hi:X.N[i]? =some x:=by rfl)(hx:Loc X.env.scope x:=by first | exact Or.inl rfl | exact Or.inr rfl)(hs:swapsWith (.List es p2) (some (.Name x p3)) pos.line X.env=pure false:=by rfl)
  (hf:X.fn x=true\/X.env.scope.names.lookup x=some .local:=by first | exact .inl rfl | exact .inr rfl | assumption):nN X (.Assign [.Name x p3] (.List es p2) pos) (gx i f):=PS.imp (tO hN hi hx (wR ha) hs hf) λD σ H hh_=>by
 obtain⟨Z,B,M,E,h⟩:=hh_;refine⟨Z,OO B M,E.o,?_⟩
 unfold gx at h
 cases q:f Z with
 | bad=>rw[q]at h;exact h.elim
 | err c=>rw[q]at h;exact PostF.xa h
 | ok l=>
  rw[q,aC]at h;intro H1 s1 vs rs
  by_cases hl:i<Z.length/\l.length<=sizeLine
  ·rw[if_pos hl]at h
   refine⟨by rw[<-rs.length];exact hl.2,λp hp=> ?_⟩
   have hm:∀a,a=p->Nw X.K H1 a:=λa z=>z▸hp
   obtain⟨E2,sub⟩:=(E.same s1).new (m:=λa=>a=p) (o:=.lst l) (v:=.ref p) (H':=upd H1 p (.lst vs)) hl.1 hm (aP hp.1 _) ⟨p,vs,rfl,λb=>Iff.rfl,aR,(rs.more (Ev.subO hm)).same (aP hp.1 _)⟩
   exact h _ _ _ (SameO.of (s1.trans (aP hp.1 _))) E2 λa z=>(sub a z).imp_right (w8 s1)
  ·rw[if_neg hl]at h
   exact h.elim
def jR (i:Nat)(f:En->Rs T)(Z:En):Rs Fl:=match Z[i]? with
 | some (.ow (.lst l))=>f Z >>= λt=>if l.length<sizeLine then .ok (.nx (Z.set i (.ow (.lst (l++ [t])))))else .bad
 | _=> .bad
theorem Ev.putL {K:PySem.W.Frag}{B:Ow}{M:Mn}{H:Hp}{Z:En}{σ:L2.St}{i:Nat}{o:OT}{l':List T}{b:Addr}{vs':List V}(E:Ev K B M H Z σ)(hi:Z[i]? =some (.ow o))(hs:σ[i]? =some (some (.ref b)))(hM:∀c,M i c↔c=b)(r:Reps K (OO B M) H l' vs') :
  Ev K B M (upd H b (.lst vs')) (Z.set i (.ow (.lst l'))) σ/\SameO M.u H (upd H b (.lst vs')):=by
 have sm:SameO (M i) H (upd H b (.lst vs')):=λc u e nb=>by rw[aG (λz=>nb ((hM c).mpr z))];exact e
 exact E.put hi hs sm ⟨b,vs',rfl,hM,aR,r.move (P:=M i) (λa z=> .inl (.inr ⟨i,z⟩)) (λa z=> .inl z) sm⟩
theorem yU (i:Nat){apos cpos:Pos}(ha:cg X a fa)(hN:X.N[i]? =some x:=by rfl)(hv:vt X.env.scope x:=by first | exact Or.inl rfl | exact Or.inr (Or.inl rfl) | exact Or.inr (Or.inr rfl))(hn:bS a=true:=by rfl)
  (hbase:attributeBase (.Name x p2) "append" X.env (eval (.Name x p2) X.env)=eval (.Name x p2) X.env:=by rfl) (hline:(apos.endLine == cpos.line)=true:=by rfl)
  (hd:(x == ("__debug__" : Str))=false:=by decide) (hcd:(x == ("__classdict__" : Str))=false:=by decide)
  (hsw:swapsWith (.Call (.Attribute (.Name x p2) "append" apos) [a] [] cpos) none pos.line X.env=pure false:=by rfl):nN X (.Expr (.Call (.Attribute (.Name x p2) "append" apos) [a] [] cpos) pos) (jR i fa):=by
 have h1:starEach [a] X.env=(false,eval a X.env)::starEach [] X.env:=bh hn;refine PS.imp (mY (x8 PySem.F.plainAttrs_list PySem.F.slot_list_append PySem.F.type_list_append l4 (mZ hN hv hd hcd) (gV ha kJ h1) hbase ?_ hline h1 rfl) hsw) λD σ H ⟨Z,B,M,E,h⟩=> ?_
 ·rw[h1];rfl
 unfold jR at h
 split at h
 ·rename_i l hl
  obtain⟨v0,e1,b,vs,rfl,hM,e3,e4⟩:=E.env.own i _ hl;refine⟨.ref b,e1,.inl ⟨rfl,vs,SqL.of e3⟩,Z,OO B M,E.o,?_⟩
  cases q:fa Z with
  | bad=>rw[q]at h;exact h.elim
  | err c=>rw[q]at h;exact PostF.xa h
  | ok t=>
   rw[q,aC]at h
   split at h
   ·rename_i hz
    intro H1 s1 v r
    have e3':=s1 _ _ e3;refine⟨b,vs,v,rfl,rfl,e3',by rw[<-e4.length];exact hz,?_⟩
    obtain⟨g1,g2⟩:=(E.same s1).putL (l':=l++ [t]) (vs':=vs++ [v]) hl e1 hM ((e4.same s1).append (Reps.cons_ r Reps.nil_));exact h σ _ M (λc o e nb=>g2 c o (s1 _ _ e) nb) g1 λc z=> .inl z
   ·exact h.elim
 ·exact h.elim
def z6 (i:Nat)(l:List T)(Z:En):T->Rs Fl
 | .lst m=>if l.length+m.length<=sizeLine then .ok (.nx (Z.set i (.ow (.lst (l++m)))))else .bad
 | _=> .bad
def kH (i:Nat)(f:En->Rs T)(Z:En):Rs Fl:=match Z[i]? with
 | some (.ow (.lst l))=>f Z >>= z6 i l Z
 | _=> .bad
theorem yR (i:Nat){apos cpos:Pos}(ha:cg X a fa)(hN:X.N[i]? =some x:=by rfl)(hv:vt X.env.scope x:=by first | exact Or.inl rfl | exact Or.inr (Or.inl rfl) | exact Or.inr (Or.inr rfl))(hn:bS a=true:=by rfl)
  (hbase:attributeBase (.Name x p2) "extend" X.env (eval (.Name x p2) X.env)=eval (.Name x p2) X.env:=by rfl) (hline:(apos.endLine == cpos.line)=true:=by rfl)
  (hd:(x == ("__debug__" : Str))=false:=by decide) (hcd:(x == ("__classdict__" : Str))=false:=by decide)
  (hsw:swapsWith (.Call (.Attribute (.Name x p2) "extend" apos) [a] [] cpos) none pos.line X.env=pure false:=by rfl):nN X (.Expr (.Call (.Attribute (.Name x p2) "extend" apos) [a] [] cpos) pos) (kH i fa):=by
 have h1:starEach [a] X.env=(false,eval a X.env)::starEach [] X.env:=bh hn;refine PS.imp (mY (x8 PySem.F.plainAttrs_list PySem.F.slot_list_extend PySem.F.type_list_extend rY (mZ hN hv hd hcd) (gV ha kJ h1) hbase ?_ hline h1 rfl) hsw) λD σ H ⟨Z,B,M,E,h⟩=> ?_
 ·rw[h1];rfl
 unfold kH at h
 split at h
 ·rename_i l hl
  obtain⟨v0,e1,b,vs,rfl,hM,e3,e4⟩:=E.env.own i _ hl;refine⟨.ref b,e1,.inl ⟨rfl,vs,SqL.of e3⟩,Z,OO B M,E.o,?_⟩
  cases q:fa Z with
  | bad=>rw[q]at h;exact h.elim
  | err c=>rw[q]at h;exact PostF.xa h
  | ok t=>
   rw[q,aC]at h;unfold z6 at h
   split at h
   ·rename_i m
    split at h
    ·rename_i hz
     intro H1 s1 v r;obtain⟨c,ws,rfl,nO,hc,rm⟩:=Rep.lst_iff.mp r
     have e3':=s1 _ _ e3;refine⟨b,c,vs,ws,rfl,rfl,e3',hc,by rw[<-e4.length,<-rm.length];exact hz,?_⟩
     obtain⟨g1,g2⟩:=(E.same s1).putL (l':=l++m) (vs':=vs++ws) hl e1 hM ((e4.same s1).append rm);exact h σ _ M (λc o e nb=>g2 c o (s1 _ _ e) nb) g1 λc z=> .inl z
    ·exact h.elim
   ·exact h.elim
 ·exact h.elim
def mU (i:Nat)(F:En->Rs Fl)(Z:En):Rs Fl:=F (disown i Z)
theorem yS (i:Nat){st:Stmt}{F:En->Rs Fl}(h:nN X st F):nN X st (mU i F):=PS.imp h λD σ H hh_=>by
 obtain⟨Z,B,M,E,q⟩:=hh_;obtain⟨E',sub⟩:=E.disown i;exact⟨disown i Z,B,_,E',PostF.later q (λ_ _ e _=>e) λa z=> .inl (sub a z)⟩
mutual
def T.nk (D:Bool):T->Bool
 | .scr _=>false
 | .dct _ ts=> !D&&nks D ts
 | .lst l=>D&&nks D l
 | .tup l=>nks D l
 | _=>true
def nks (D:Bool):List T->Bool
 | [] =>true
 | t::l=>t.nk D&&nks D l
end
mutual
theorem Rep.lend {K:PySem.W.Frag}{O O':Ow}{H:Hp}{D:Bool}(hk:∀a,O a->O' a\/if D then ∃kvs,H a=some (.dT kvs)else ∃vs,H a=some (.lst vs)):∀{t:T} {v:V},t.nk D=true->Rep K O' H t v->Rep K O H t v
 | .non,_,_,r=>by unfold Rep at r ⊢;exact r
 | .bl _,_,_,r=>by unfold Rep at r ⊢;exact r
 | .int _,_,_,r=>by unfold Rep at r ⊢;exact r
 | .str _,_,_,r=>by unfold Rep at r ⊢;exact r
 | .tup l,_,h,r=>by
  unfold Rep at r ⊢;unfold T.nk at h;obtain⟨a,vs,e,n,q,z⟩:=r;refine⟨a,vs,e,λp=>(hk a p).elim n λw=> ?_,q,Reps.lend hk h z⟩
  split at w <;> (obtain⟨_,w⟩:=w;rw[q]at w;cases w)
 | .lst l,_,h,r=>by
  unfold Rep at r ⊢;unfold T.nk at h;rw[Bool.and_eq_true]at h;obtain⟨h1,h2⟩:=h;subst h1;obtain⟨a,vs,e,n,q,z⟩:=r;refine⟨a,vs,e,λp=>(hk a p).elim n λw=> ?_,q,Reps.lend hk h2 z⟩
  rw[if_pos rfl]at w;obtain⟨_,w⟩:=w;rw[q]at w;cases w
 | .scr l,_,h,r=>by unfold T.nk at h;cases h
 | .dct ks ts,_,h,r=>by
  unfold Rep at r ⊢;unfold T.nk at h;rw[Bool.and_eq_true]at h;obtain⟨h1,h2⟩:=h
  cases D with
  | true=>cases h1
  | false=>
   obtain⟨a,kvs,e,n,q,k,z⟩:=r;refine⟨a,kvs,e,λp=>(hk a p).elim n λw=> ?_,q,k,Reps.lend hk h2 z⟩
   rw[if_neg Bool.false_ne_true]at w;obtain⟨_,w⟩:=w;rw[q]at w;cases w
theorem Reps.lend {K:PySem.W.Frag}{O O':Ow}{H:Hp}{D:Bool}(hk:∀a,O a->O' a\/if D then ∃kvs,H a=some (.dT kvs)else ∃vs,H a=some (.lst vs)):∀{l:List T} {vs:List V},nks D l=true->Reps K O' H l vs->Reps K O H l vs
 | [],_,_,r=>by unfold Reps at r ⊢;exact r
 | t::l,_,h,r=>by
  unfold Reps at r ⊢;unfold nks at h;rw[Bool.and_eq_true]at h;obtain⟨v,ws,e,p,q⟩:=r;exact⟨v,ws,e,Rep.lend hk h.1 p,Reps.lend hk h.2 q⟩
end
def ln (i:Nat)(f:En->Rs T)(Z:En):Rs T:=match Z[i]? with
 | some (.ow o)=>f (disown i Z) >>= λt=>if t.nk o.isD=true then .ok t else .bad
 | _=>f Z
def zE (i:Nat)(f:En->Rs Bool)(Z:En):Rs Bool:=f (disown i Z)
theorem mH {K:PySem.W.Frag}{O:Ow}{M:Mn}{H:Hp}{Z:En}{σ:L2.St}(E:EnvM K O M H Z σ)(i:Nat):EnvM K (λa=>O a/\¬ M i a) (M.set i sL) H (disown i Z) σ:=
 E.disown i (λa z=>z.1) (λa z y=>y.2 z) λj a hj z=>⟨E.sub j a z,λy=>hj (E.dis j i a z y)⟩
theorem q_ln (i:Nat){e:Expr}{f:En->Rs T}(h:cg X e f):cg X e (ln i f):=PE.imp h λσ H Q ⟨Z,O,⟨M,E⟩,q⟩=>by
 unfold ln at q
 split at q
 ·rename_i o hi
  refine⟨disown i Z,_,⟨_,mH E i⟩,?_⟩
  obtain⟨w,e1,r⟩:=E.own i o hi;refine Post.mono (Post.bind q) λt H' s q2 v rv=> ?_
  split at q2
  ·rename_i hk
   have kd:=(r.same s).kind;refine q2 H' (Same.refl _) v (Rep.lend (λa z=> ?_) hk rv)
   by_cases hm:M i a
   ·exact .inr (kd a hm)
   ·exact .inl ⟨z,hm⟩
  ·exact q2.elim
 ·exact⟨Z,O,⟨M,E⟩,q⟩
theorem AU (i:Nat){e:Expr}{f:En->Rs Bool}(h:pE X e f):pE X e (zE i f):=PT.imp h λσ H Q ⟨Z,O,⟨M,E⟩,q⟩=>⟨disown i Z,_,⟨_,mH E i⟩,q⟩
end
end Tr
namespace Tr
open PySem L2
def lp:List T->List T->List Key->Option T
 | k'::ks,v::vs,k=>if keyOf k'=some k then some v else lp ks vs k
 | _,_,_=>none
def ga (k v:T):List T->List T->List T×List T
 | k'::ks,v'::vs=>if keyOf k'=keyOf k then(k'::ks,v::vs)else(k'::(ga k v ks vs).1,v'::(ga k v ks vs).2)
 | _,_=>([k],[v])
def jt (x y:T):Rs T:=match x,keyOf y with
 | .dct ks vs,some k=>match lp ks vs k with
  | some t=> .ok t
  | none=> .bad
 | _,_=> .bad
def gf (x y:T):Rs T:=match x,keyOf y with
 | .dct ks vs,some k=>match lp ks vs k with
  | some t=> .ok t
  | none=> .ok .non
 | _,_=> .bad
def oD (g:T->T->Rs T)(fa fb:En->Rs T)(Z:En):Rs T:=fa Z >>= λx=>match x with
 | .dct ks vs=>fb Z >>= g (.dct ks vs)
 | _=> .bad
def oL (g:T->T->Rs T)(fa fb:En->Rs T)(Z:En):Rs T:=fa Z >>= λx=>match x with
 | .lst l=>fb Z >>= g (.lst l)
 | _=> .bad
def As:List T->Option (List (T×T))
 | [] =>some []
 | .tup [k,v] ::l=>match keyOf k,As l with
  | some _,some r=>some ((k,v)::r)
  | _,_=>none
 | _=>none
def fx:List (T×T)->List T×List T->List T×List T
 | [],d=>d
 | (k,v)::r,d=>fx r (ga k v d.1 d.2)
def rh:List T->Rs T
 | [.lst l] =>match As l with
  | some ps=>if l.length<=1000 then .ok (.dct (fx ps ([],[])).1 (fx ps ([],[])).2)else .bad
  | none=> .bad
 | _=> .bad
def jK:List T->Bool
 | [] =>true
 | k::l=>(keyOf k).isSome&&jK l
def lV (i:Nat)(f:En->Rs T)(Z:En):Rs Fl:=f Z >>= λt=>rh [t] >>= λd=>match d with
 | .dct ks vs=>if i<Z.length then .ok (.nx (Z.set i (.ow (.dct ks vs))))else .bad
 | _=> .bad
def rM (i:Nat)(fk fv:En->Rs T)(Z:En):Rs Fl:=match Z[i]? with
 | some (.ow (.dct ks vs))=>fv Z >>= λv=>fk Z >>= λk=>match keyOf k with
  | some _=>if ks.length<1000 then .ok (.nx (Z.set i (.ow (.dct (ga k v ks vs).1 (ga k v ks vs).2))))else .bad
  | none=> .bad
 | _=> .bad
def ig:List T->Option (List Int)
 | [] =>some []
 | .int i::l=>(ig l).map (i:: ·)
 | _=>none
def p6 (i:Int):List Int->Int
 | [] =>i
 | j::l=>p6 (if j<i then j else i) l
def yz:List T->Rs T
 | [.lst l] =>match ig l with
  | some ns=> .ok (.int ns.sum)
  | none=> .bad
 | _=> .bad
def ut:List T->Rs T
 | [.lst l] =>match ig l with
  | some (i::ns)=> .ok (.int (p6 i ns))
  | _=> .bad
 | [.int i,.int j] => .ok (.int (p6 i [j]))
 | _=> .bad
def hU (x:T):List T->Nat->Option Nat
 | [],_=>none
 | t::l,n=>if aO t x then some n else hU x l (n+1)
def fD (y x:T):Rs T:=match y with
 | .lst l=>if (x.dep<=60\/deps l<=60)/\x.nd=true/\nds l=true then match hU x l 0 with
   | some n=> .ok (.int n)
   | none=> .bad
  else .bad
 | _=> .bad
def lR (f:En->Rs (List T))(Z:En):Rs T:=f Z >>= λx=>match x with
 | [.int i,.int j] =>if o7 i&&o7 j&&decide ((j - i).toNat<=1000)then .ok (.lst (rng i j))else .bad
 | [.int j] =>if o7 j&&decide (j.toNat<=1000)then .ok (.lst (rng 0 j))else .bad
 | _=> .bad
def FU:Nat:=1000000000000
end Tr
namespace Tr
open PySem PySem.Spec PyProof.Rows L2
theorem il {h b b':Heap}:∀{l:List Env},h.FunFrames b l->(∀a∈l.filterMap (·.frame),b'.get? a=none)->h.FunFrames b' l
 | [],_,_=>trivial
 | env::cv,⟨hk,⟨L,o,hf,hn,ho,hd⟩,hr⟩,q=>by
  rw[List.filterMap_cons,hf]at q;exact⟨hk,⟨L,o,hf,q L List.mem_cons_self,ho,hd⟩,il hr λa ha=>q a (List.mem_cons_of_mem _ ha)⟩
section
variable {M:Model}{A:Around}{E:Value->Shared->Prop}{s:Shared}
structure Gone (fs:List Addr)(C e:Addr)(T:Option Addr)(h h':Heap)(T':Addr):Prop where
 flt:Co h' C e (some T')
 new:T=some T'\/h.get? T'=none
 keep:∀b o,b∉fs->b≠e->T≠some b->h.get? b=some o->h'.get? b=some o
 slot:∀b o,b∈fs->h.get? b=some o->∃sl,h'.get? b=some { o with slots:=sl }
theorem zF {base:Heap}{env:Env}{outer:List Env}{L C e:Addr}{T:Option Addr}{Q:Unit->Shared->Prop}(hfr:A.frames=some (env::outer))(hl:s.heap.FunFrames base (env::outer))(hf:env.frame=some L)
  (F:Co s.heap C e T) (h:∀h' T',Gone ((env::outer).filterMap (·.frame)) C e T s.heap h' T'->Q () { s with heap:=h' }):wpAny M A (leaving env (.ref e)) Q E s:=by
 generalize hB:PySem.W.hideAll s.heap (e::(T.toList++(env::outer).filterMap (·.frame)))=B
 have bm:∀b,b∈e::(T.toList++(env::outer).filterMap (·.frame))->B.get? b=none:=λb m=>by rw[<-hB];exact PySem.W.hideAll_none _ m
 have hl':s.heap.FunFrames B (env::outer):=il hl λa ha=>bm a (List.mem_cons_of_mem _ (List.mem_append_right _ ha))
 have hst:B.StaysIn s.heap:=λb o q=>by rw[<-hB]at q;exact PySem.W.of_hideAll _ q
 have hen:B.get? e=none:=bm e List.mem_cons_self
 have main:∀h',Heap.Left B (env::outer) e (.ref C) s.heap h'->Q () { s with heap:=h' }:=λh' ⟨x1,x2,⟨oe,vs,T',oT,ts,he,hc,hd,h1,hnT,hTe,hT,hdT,h3⟩,x4⟩=>by
  refine h h' T' ⟨⟨hTe,oe,vs,he,hc,hd,h1,oT,ts,hT,hdT,h3⟩,?_,λb o n1 n2 n3 q=> ?_,λb o m q=> ?_⟩
  ·cases q:s.heap.get? T' with
   | none=>exact .inr rfl
   | some o=>
    left
    by_cases z:T'∈e::(T.toList++(env::outer).filterMap (·.frame))
    ·rcases List.mem_cons.mp z with z | z
     ·exact absurd z hTe
     ·rcases List.mem_append.mp z with z | z
      ·cases T with
       | none=>simp at z
       | some t=>simp at z;rw[z]
      ·obtain⟨_,o',ho',hnf⟩:=x2.mem z
       rw[hT]at ho';cases ho';exact absurd hdT (hnf ts)
    ·rw[<-hB,PySem.W.hideAll_get _ q z]at hnT;cases hnT
  ·refine x1 b o ?_
   rw[<-hB];refine PySem.W.hideAll_get _ q λz=> ?_
   rcases List.mem_cons.mp z with z | z
   ·exact n2 z
   ·rcases List.mem_append.mp z with z | z
    ·cases T with
     | none=>simp at z
     | some t=>simp at z;exact n3 (by rw[z])
    ·exact n1 z
  ·obtain⟨_,o',ho',hnf⟩:=hl.mem m
   rw[q]at ho';cases ho';exact x4 b o q hnf
 cases T with
 | none=>
  obtain⟨oe,vs,he,hc,hd,h1⟩:=F;refine wpAny_leaving_first hfr hl' hf he hst hen hd h1 λh' x=>main h' ?_
  rw[hc]at x;exact x
 | some t=>
  obtain⟨hte,oe,vs,he,hc,hd,h1,oT,ts,hT,hdT,h3⟩:=F;exact wpAny_leaving_next hfr hl' hf ⟨oe,vs,t,oT,ts,he,hc,hd,h1,bm t (List.mem_cons_of_mem _ (List.mem_append_left _ (by simp))),hte,hT,hdT,h3⟩ hst hen main
end
abbrev rn:List Value:=[.type "ValueError",.type "Exception",.type "BaseException",.type "object"]
structure OwnExc (K:PySem.W.Frag)(C:Addr)(bm:List Value):Prop where
 at_:∀h:Heap,K.In h->∃nm q N bs hdct sn sub ab col dd k0 k1 k2 k3 k5 mN,h.get? C=some (excClassObj nm q C N bs bm hdct sn sub ab col dd k0 k1 k2 k3 k5 "ValueError.__new__")/\h.Ns N mN/\mN "__init__" =none/\OwnTail h rn bm
theorem OwnExc.base {K:PySem.W.Frag}{C:Addr}{bm:List Value}(O:OwnExc K C bm){h:Heap}(k:K.In h):bm.contains (.type "BaseException")=true:=by
 obtain⟨_,_,_,_,_,_,_,_,_,_,_,_,_,_,_,_,_,_,_,T⟩:=O.at_ h k;exact T.hasType (by decide)
def wa (c:Str)(_:En):Rs Fl:=.err c
section
variable {X:Cx}
theorem tH {c:Str}{msg:Str}{C:Addr}{bm:List Value}{np p1 cpos pos:Pos}{j:Nat}(O:OwnExc X.K C bm)(hc:X.calm=true)(hm:X.mg c=some (.ref C))(hg:Gl X c:=by rfl)(hd:(c == ("__debug__" : Str))=false:=by decide) :
  nN X (.Raise (some (.Call (.Name c np) [.Constant (.str msg) j p1] [] cpos)) none pos) (wa c):=by
 intro pins s σ H D I ⟨Z,B,M,E,k⟩
 have k:XA X M.u H c:=k;obtain⟨nm,q,N,bs,hdct,sn,sub,ab,col,dd,k0,k1,k2,k3,k5,mN,hC,hN,hni,T⟩:=O.at_ s.heap I.kIn;refine wpAny_Raise_call_subU (C:=C) (mN:=mN) (nm:=nm) (q:=q) (N:=N) (bs:=bs) (hdct:=hdct) (sn:=sn) (sub:=sub) (ab:=ab) (col:=col) (dd:=dd) (k0:=k0) (k1:=k1) (k2:=k2) (k3:=k3) (k5:=k5) PySem.F.excBase_ValueError (Bn:="ValueError") (by decide) PySem.F.excBase_ValueError (O.base I.kIn) (I.ok.hd hc) (by rfl) hni (kh I hg hm ⟨rfl,?_⟩ hd)
 show wpAny _ _ (evalArgs (.ref C) true ((false,eval (.Constant (.str msg) j p1) X.env)::backTo cpos (starEach [] X.env)) []) _ _ s
 refine Calls.evalArgs_plain (Calls.spliced_cons (Calls.Constant_str (Calls.spliced_nil ?_)))
 refine⟨rfl,by show 1<=sizeLine;decide,hC,hN,T,λh' e hm'=>k pins _ _ ?_⟩
 obtain⟨t,ht,ht2,ht3⟩:=hm'.there
 have I':Inv X pins σ H { s with heap:=h',toks:=s.toks+1 }:=I.kept (t':=s.toks+1) λb o z=>hm'.keeps b o z
 refine⟨e,none,C,σ,H,rfl,hm,I',λb o z _=>z,?_,?_,⟨_,_,ht,rfl,rfl,rfl⟩,(λt z=>by cases z),λp hp=>⟨λz=> ?_,λz=>by cases z⟩⟩
 ·exact oR I hm'.new
 ·exact λhex=>nq I hex hm'.new
 ·have:=(I.pin p hp).1
  rw[z,show s.heap.get? e=none from hm'.new]at this
  cases this
end
section
variable {P:Program}{w:World}{K:PySem.W.Frag}{mg:Str->Option Value}{base:Heap}
theorem zY {x qual:Str}{st:Stmt}{f:Addr}{fd:FuncData}{N ps:List Str}{k n:Nat}{g:List T->Rs T}(Fn:L2.Fun K x qual st f fd)(S:ay N ps (aj st))(hn:ps.length=n)
  (hbody:∀(cdv:Value) (A:Around) (outer:List Env) (s:Shared) (H:Hp) (E:XK),Room k (A.deeper (envOfC qual (aj st) s.heap.objs.size f cdv)) →
   ∃F,(∀xe,j6 ((ju CX0 P w K mg base N qual (aj st) f cdv A outer s H E).wish xe) (cY st) F)/\∀ts,ts.length=n->∀c,g ts= .err c->F (aI N.length ts)= .err c):FnX P w K mg base (k+1) f fd ps n g:=by
 intro A outer s H args us vs O ts c R hr e0 hb r rs trk hl hg hR
 have hpl:ps.length<=N.length:=by have:=congrArg List.length S.pre;rw[List.length_take]at this;omega
 obtain⟨oc,od,kV,doc,pm,an,cdv,ct,osl,rfl,lk,hcd⟩:=Fn.ex
 have hlen:vs.length=ps.length:=by rw[<-rs.length,hl,hn]
 have KX:K.In s.heap:=e0.mod.kin.keeps λb o e=>(e0.bs b o e).1
 have lim:s.heap.NoLimit:=e0.mod.nolimit.keeps λb o e=>(e0.bs b o e).1
 have hkind:∀y∈ps.zip us,(aj st).names.lookup y.1=some .local\/((aj st).names.lookup y.1=some .cell/\((cellsFrom (s.heap.objs.size+1) (aj st).names []).lookup y.1).isSome=true):=λ⟨n,v⟩ hy=>by
  rcases S.par n (List.of_mem_zip hy).1 with q | q
  ·exact .inl q
  ·exact .inr ⟨q,PySem.W.cellsFrom_some _ _ _ (.inl q)⟩
 refine codeAny_call_function hr.depth (KX _ _ lk) rfl S.co S.gen rfl (PySem.W.codeRec_of KX hcd) (hb _ _ _ _ ?_)
 refine wpAny_newFunctionEnv_cells S.kind hkind λenv he s1 x=> ?_
 subst he;refine⟨lim.keeps x.toInCall.keep,codeAny_func ?_⟩
 obtain⟨F,hF,hv⟩:=hbody cdv A outer s H E0 (hr.deeper _)
 let xe:Value->Shared->Prop:=λev s'=>wpAny (model P w) (A.deeper (envOfC qual (aj st) s.heap.objs.size f cdv)) (leaving (envOfC qual (aj st) s.heap.objs.size f cdv) ev) (λ_ s''=>R (.error ev) s'') (λe' s''=>R (.error e') s'') s'
 have I:Inv ((ju CX0 P w K mg base N qual (aj st) f cdv A outer s H E0).wish xe) [] (start N vs) H s1:=(mi S hr.hd e0 hlen r x).wish _
 have no:∀a,¬noM.u a:=λa ⟨_,z⟩=>z
 refine wpAny_mono (hF xe [] s1 (start N vs) H { nx:=λ_ _=>False,rt:=λ_ _=>False,bk:=λ_ _=>False,ct:=λ_ _=>False } I ⟨aI N.length ts,O,noM,lS rs (by omega) trk,?_⟩) (λfl s' z=> ?_) λe s' hs=>hs
 rotate_left
 ·cases fl with
  | next=>obtain⟨_,_,_,z⟩:=z;exact z.elim
  | cont=>obtain⟨_,_,_,z⟩:=z;exact z.elim
  | brk=>obtain⟨_,_,_,z⟩:=z;exact z.elim
  | ret v=>obtain⟨_,_,_,_,_,z⟩:=z;exact z.elim
 rw[hv ts hl c hg];intro pins ev s' w'
 show wpAny _ _ _ _ _ _
 obtain⟨e,T,C,σ',H',rfl,hm,I',sm,he,heo,fl,hT,_⟩:=w'
 have heo:=heo rfl
 have hT:∀t,T=some t->H' t=none/\s.heap.get? t=none:=λt z=>⟨(hT t z).1,(hT t z).2 rfl⟩
 refine zF (base:=base) (outer:=outer) (L:=s.heap.objs.size) I'.ok.frames I'.stack rfl fl λh' T' g=>hR _ _ ?_
 have hex:((ju CX0 P w K mg base N qual (aj st) f cdv A outer s H E0).wish xe).ex= []:=rfl
 have Tn:H' T'=none/\s.heap.get? T'=none:=by
  rcases g.new with z | z
  ·exact hT T' z
  ·exact⟨oR I' z,nq I' hex z⟩
 have out:∀b o,s.heap.get? b=some o->b≠s.heap.objs.size:=λb o q z=>by
  have:=Heap.lt_size q;rw[z]at this;exact absurd this (Nat.lt_irrefl _)
 have mem:∀b,b∈nB ((envOfC qual (aj st) s.heap.objs.size f cdv)::outer)->b=s.heap.objs.size\/b∈nB outer:=λb z=>by
  have z':b∈s.heap.objs.size::nB outer:=z;exact List.mem_cons.mp z'
 have ne:∀b o,s.heap.get? b=some o->b≠e/\T≠some b:=λb o q=>⟨λz=>(by subst z;rw[show s.heap.get? b=none from heo]at q;cases q),λz=>(by rw[show s.heap.get? b=none from(hT b z).2]at q;cases q)⟩
 have keepH:∀b u,H' b≠none->s'.heap.get? b=some u->h'.get? b=some u:=λb u hb q=>by
  refine g.keep b u (λz=>hb (I'.stkFree b z)) (λz=>hb (by rw[z];exact he)) (λz=>hb (hT b z).1) q
 refine⟨e,T',C,H',rfl,hm,I'.os,I'.bare,⟨λb o q n hb hx=> ?_,λb o q n hb hx=> ?_,λb o q n hx=>I'.base.free b o q n hx,λb o q hx=> ?_,I'.base.tups,I'.base.frzs,I'.base.tbls⟩,λa o q=> ?_,λb o q=>sm b o q (no b),he,heo,g.flt,Tn.1,Tn.2⟩
 ·exact g.keep b o (λz=>(mem b z).elim (out b o q) hb) (ne b o q).1 (ne b o q).2 (I'.base.keep b o q n hb hx)
 ·obtain⟨sl,q1⟩:=I'.base.slot b o q n hb hx
  obtain⟨sl',q2⟩:=g.slot b _ (List.mem_cons_of_mem _ hb) q1;exact⟨sl',q2⟩
 ·obtain⟨o',q1⟩:=I'.base.there b o q hx
  by_cases z:b∈nB ((envOfC qual (aj st) s.heap.objs.size f cdv)::outer)
  ·obtain⟨sl,q2⟩:=g.slot b o' z q1
   exact⟨_,q2⟩
  ·exact⟨o',g.keep b o' z (ne b o q).1 (ne b o q).2 q1⟩
 ·refine(I'.hok a o q).stay (λb u hb z=>keepH b u ?_ z) (λ_ z=>z) λ_ _ z=>z
  rcases hb with rfl | hb
  ·rw[q];simp
  ·rw[hb];simp
end
theorem vS {n m:Nat}{F:En->Rs Fl}{ts:List T}{c:Str}(h:val n m F ts= .err c):F (aI m ts)= .err c:=by
 unfold val at h
 split at h
 ·unfold bf at h
  cases z:F (aI m ts)with
  | bad=>rw[z]at h;cases h
  | err c'=>rw[z]at h;cases h;rfl
  | ok f=>
   rw[z,aC]at h;cases f <;> cases h
 ·cases h
section
variable {P:Program}{w:World}{K:PySem.W.Frag}{mg:Str->Option Value}{base:Heap}
theorem zZ {x qual:Str}{st:Stmt}{f:Addr}{fd:FuncData}{N ps:List Str}{k n:Nat}{F:En->Rs Fl}(Fn:L2.Fun K x qual st f fd)(S:ay N ps (aj st))(hn:ps.length=n)
  (hbody:∀(cdv:Value) (A:Around) (outer:List Env) (s:Shared) (H:Hp) (E:XK),Room k (A.deeper (envOfC qual (aj st) s.heap.objs.size f cdv)) →
   ∀xe,j6 ((ju CX0 P w K mg base N qual (aj st) f cdv A outer s H E).wish xe) (cY st) F):Aq P w K mg base (k+1) f fd ps n (val n N.length F):=
 ⟨BO Fn S hn λcdv A outer s H E hr=>⟨F,hbody cdv A outer s H E hr _,λts _ _ h=>yw h⟩,zY Fn S hn λcdv A outer s H E hr=>⟨F,hbody cdv A outer s H E hr,λts _ c h=>vS h⟩⟩
end
section
variable {X:Cx}{a:Expr}{fa:En->Rs T}{pos p:Pos}{x:Str}
theorem AX:nN X (.Continue pos) xY:=PS.imp oE λD σ H ⟨Z,B,M,E,h⟩=>h σ H M (λ_ _ e _=>e) E λa z=> .inl z
end
def calmNames:List Str:=["__init__","__getattribute__","__getattr__","__class__"]
inductive OTail (h:Heap):List Value->Prop
 | base:OTail h rn
 | own {A:Addr} {c0:Value} {dd:Option Addr} {cd:ClassData} {sl:Array (Option Value)} {mA:Str->Option Value} {tl:List Value} :
   h.get? A=some { cls:=c0,dict:=dd,data:=.cls cd,slots:=sl }->h.Ns cd.ns mA->(∀n∈calmNames,mA n=none)->OTail h tl->OTail h (.ref A::tl)
theorem OTail.tail {h:Heap}{tl:List Value}(T:OTail h tl):OwnTail h rn tl:=by
 induction T with
 | base=>exact .base
 | own hA hN hq _ ih=>exact .own hA hN (hq _ (.head _)) ih
structure OX (K:PySem.W.Frag)(C:Addr)(bm:List Value):Prop where
 at_:∀h:Heap,K.In h->∃nm q N bs hdct sn sub ab col dd k0 k1 k2 k3 k5 mN,h.get? C=some (excClassObj nm q C N bs bm hdct sn sub ab col dd k0 k1 k2 k3 k5 "ValueError.__new__")/\h.Ns N mN/\(∀n∈calmNames,mN n=none)/\OTail h bm
theorem OX.own {K:PySem.W.Frag}{C:Addr}{bm:List Value}(O:OX K C bm):OwnExc K C bm:=⟨λh k=>by
 obtain⟨nm,q,N,bs,hdct,sn,sub,ab,col,dd,k0,k1,k2,k3,k5,mN,h1,h2,h3,h4⟩:=O.at_ h k;exact⟨nm,q,N,bs,hdct,sn,sub,ab,col,dd,k0,k1,k2,k3,k5,mN,h1,h2,h3 _ (.head _),h4.tail⟩⟩
def tf:Value->Bool
 | .str _ _=>true
 | _=>false
theorem Bp {K:PySem.W.Frag}{N:Addr}{ob:Value}{oe:Option Addr}{es:Array DictEntry}{n:Nat}{oz:Array (Option Value)}(r:K.lookup N=some ⟨ob,oe,.dict es n,oz⟩)(s:(es.toList.all λe=>tf e.key)=true)
  (u0:PySem.W.nsIn K N "__init__" =some none) (u1:PySem.W.nsIn K N "__getattribute__" =some none) (u2:PySem.W.nsIn K N "__getattr__" =some none) (u3:PySem.W.nsIn K N "__class__" =some none) :
  ∀h:Heap,K.In h->∃mN,h.Ns N mN/\∀n∈calmNames,mN n=none:=λh k=>by
 refine⟨nsFind es,⟨_,es,n,k _ _ r,rfl,λe he=> ?_,λ_=>rfl⟩,λx hx=> ?_⟩
 ·have:=List.all_eq_true.mp s e (by simpa using he)
  cases q:e.key <;> rw[q]at this <;> first | exact⟨_,_,rfl⟩ | cases this
 ·have key:∀x,PySem.W.nsIn K N x=some none->nsFind es x=none:=λx u=>by
   unfold PySem.W.nsIn at u;rw[r]at u;simp only at u
   split at u
   ·cases u
   ·rename_i he
    unfold nsFind findBy;rw[<-Array.find?_toList,he];rfl
  unfold calmNames at hx;simp only[List.mem_cons,List.not_mem_nil,or_false]at hx;rcases hx with rfl | rfl | rfl | rfl
  ·exact key _ u0
  ·exact key _ u1
  ·exact key _ u2
  ·exact key _ u3
section
variable {K:PySem.W.Frag}{nm q:Str}{C N:Addr}{bs:List Value}{hdct:Bool}{sn:List Str}{sub:List Value}{ab:Bool}{col:Option Bool}{dd:Option Addr}{k0 k1 k2 k3 k5:Option Value}
variable {nm' q':Str}{D N':Addr}{bs':List Value}{hdct':Bool}{sn':List Str}{sub':List Value}{ab':Bool}{col':Option Bool}{dd':Option Addr}{k0' k1' k2' k3' k5':Option Value}
theorem wV (w:K.lookup C=some (excClassObj nm q C N bs rn hdct sn sub ab col dd k0 k1 k2 k3 k5 "ValueError.__new__"))(ns:∀h:Heap,K.In h->∃mN,h.Ns N mN/\∀n∈calmNames,mN n=none):OX K C rn:=⟨λh k=>by
 obtain⟨mN,h1,h2⟩:=ns h k;exact⟨nm,q,N,bs,hdct,sn,sub,ab,col,dd,k0,k1,k2,k3,k5,mN,k _ _ w,h1,h2,.base⟩⟩
theorem ub (w:K.lookup C=some (excClassObj nm q C N bs (.ref D::rn) hdct sn sub ab col dd k0 k1 k2 k3 k5 "ValueError.__new__"))(ns:∀h:Heap,K.In h->∃mN,h.Ns N mN/\∀n∈calmNames,mN n=none)
  (wD:K.lookup D=some (excClassObj nm' q' D N' bs' rn hdct' sn' sub' ab' col' dd' k0' k1' k2' k3' k5' "ValueError.__new__")) (nsD:∀h:Heap,K.In h->∃mN,h.Ns N' mN/\∀n∈calmNames,mN n=none):OX K C (.ref D::rn):=⟨λh k=>by
 obtain⟨mN,h1,h2⟩:=ns h k;obtain⟨mD,d1,d2⟩:=nsD h k;exact⟨nm,q,N,bs,hdct,sn,sub,ab,col,dd,k0,k1,k2,k3,k5,mN,k _ _ w,h1,h2,.own (k _ _ wD) d1 d2 .base⟩⟩
end
theorem tD (i j:Int):rng i j=((List.range (j - i).toNat).map λ(k:Nat)=>i+(k:Int)).map T.int:=by unfold rng;rw[List.map_map];rfl
theorem qv:∀{xs:List V} {us:List Value},xs.length=us.length->(∀(m:Nat) (u:Value),us[m]? =some u->∃x,xs[m]? =some x/\RelV x u)->Vals xs us
 | [],[],_,_=> .nil
 | [],_::_,h,_=>by cases h
 | _::_,[],h,_=>by cases h
 | x::xs,u::us,h,k=>by
  obtain⟨y,e,r⟩:=k 0 u rfl;cases e;exact .cons r (qv (by simpa using h) λm v hv=>k (m+1) v hv)
theorem qH {X:Cx}{pins:List (Addr×Obj)}{σ:L2.St}{H1:Hp}{s1:Shared}{O:Ow}{Q:VK}{i j:Int}{t t' t2:Tok}{tk0:Nat}(hc:X.A.handled=none)(I1:Inv X pins σ H1 s1)(c1 : -(2 ^ 62)<=i)(c2:i<2 ^ 62)(c3 : -(2 ^ 62)<=j)(c4:j<2 ^ 62)(k3:(j - i).toNat<=1000)(fr:∀p,H1 p=none->¬ O p)
  (q1:∀H',Same H1 H'->∀v,Rep X.K O H' (.lst (rng i j)) v->Q v H') :
  wpAny (model X.prog X.w) X.A (call (.type "list") [.ref s1.heap.objs.size]) (EP X pins σ Q) X.xe { s1 with heap:=s1.heap.push { cls:=.type "range",data:=.fields #[.int i t,.int j t',.int 1 t2] },toks:=tk0 }:=by
 refine call_list_range (n:=(j - i).toNat) hc (IsRange.new ..) (small_one c1 c2 c3 c4) (by rw[rangeSize_one];split <;> omega) (by omega) λh' tk acc' c' kp hS hacc=> ?_
 have I2:Inv X pins σ H1 { s1 with heap:=s1.heap.push { cls:=.type "range",data:=.fields #[.int i t,.int j t',.int 1 t2] },toks:=tk0 }:=I1.kept λb o e=>Heap.get?_push_of_some _ e
 have hn:H1 (s1.heap.push { cls:=.type "range",data:=.fields #[.int i t,.int j t',.int 1 t2] }).objs.size=none:=I2.hok.fresh (Nat.le_refl _)
 have hv:Vals (((List.range (j - i).toNat).map λ(k:Nat)=>i+(k:Int)).map V.int) acc'.toList:=by
  refine qv ?_ ?_
  ·simp[hacc.1]
  ·intro m u hu
   have hu':acc'[m]? =some u:=by simpa using hu
   obtain⟨tk,rfl⟩:=hacc.2 m u hu'
   have hm:m<(j - i).toNat:=by
    have:=(Array.getElem?_eq_some_iff.mp hu').1
    rw[hacc.1]at this;exact this
   refine⟨.int (i+(m:Int)),by simp[hm],⟨tk,?_⟩⟩
   rw[Int.mul_one]
 have I3:Inv X pins σ (upd H1 _ (.lst _)) { s1 with heap:=h',toks:=tk }:=I2.laid (t':=tk) (o:=.lst (((List.range (j - i).toNat).map λ(k:Nat)=>i+(k:Int)).map V.int)) kp (Nat.le_refl _) ⟨by rw[List.length_map,List.length_map,List.length_range,sizeLine_eq];omega,acc'.toList,c',hv,by simpa using hS⟩
 refine⟨.ref _,_,I3,rfl,q1 _ (aP hn _) _ ?_⟩
 rw[tD];exact fN hn (fr _ hn) Reps.ints
theorem tJ {X:Cx}{a:Expr}{es:List Expr}{fs:En->Rs (List T)}{p1 p2 pos pos2:Pos}(hc:X.calm=true)(h1:X.mg "list" =none)(h2:X.mg "range" =none)(ha:nP X (a::es) fs)(g1:Gl X "list":=by rfl)(g2:Gl X "range":=by rfl)
  (hn:aZ (a::es)=true:=by rfl)
  (he2:starEach [.Call (.Name "range" p2) (a::es) [] pos2] X.env=(false,eval (.Call (.Name "range" p2) (a::es) [] pos2) X.env)::starEach [] X.env:=by rfl) (hpl2:(backTo pos (starEach [] X.env)).any (·.1)=false:=by rfl) :
  cg X (.Call (.Name "list" p1) [.Call (.Name "range" p2) (a::es) [] pos2] [] pos) (lR fs):=by
 unfold aZ at hn;rw[Bool.and_eq_true]at hn;intro pins s σ H Q I ⟨Z,O,E,hq⟩
 have hz:=dZ E hq
 have b1:bootBuiltins ("list" : Str)=some (.type "list"):=by decide+kernel
 have b2:bootBuiltins ("range" : Str)=some (.type "range"):=by decide+kernel
 refine wpAny_Call_Name_kw (fq I g1 h1 b1 ?_ (by decide) (by decide))
 refine PyProof.Rows.callWith_type1 ?_ he2 hpl2
 rw[he2]
 show wpAny _ _ (spliced ((false,eval (.Call (.Name "range" p2) (a::es) [] pos2) X.env)::backTo pos (starEach [] X.env))) _ _ s
 refine Calls.spliced_cons ?_
 refine wpAny_Call_Name_kw (fq I g2 h2 b2 ?_ (by decide) (by decide))
 refine PyProof.Rows.callWith_type1 (cf (ha pos2 pins s σ H _ I hz) λus s1 ⟨vs,H1,I1,r1,ts,rs,sm,E1,q1⟩=> ?_) (bh hn.1) (e9 hn.2)
 split at q1
 ·rename_i i j
  split at q1
  ·rename_i hk
   rw[Bool.and_eq_true,Bool.and_eq_true]at hk;obtain⟨⟨k1,k2⟩,k3⟩:=hk;obtain⟨c1,c2⟩:=g9 k1;obtain⟨c3,c4⟩:=g9 k2
   have k3:=of_decide_eq_true k3;obtain⟨v,ws,rfl,r2,q⟩:=Reps.cons_iff.mp rs;obtain⟨v2,rfl,r3⟩:=q.one;cases Rep.int_iff.mp r2;cases Rep.int_iff.mp r3
   cases r1 with
   | cons ra rr=>
    cases rr with
    | cons rb rr=>
     cases rr;obtain⟨t,rfl⟩:=ra;obtain⟨t',rfl⟩:=rb;exact call_range_2 (Calls.spliced_nil (qH (I.ok.hd hc) I1 c1 c2 c3 c4 k3 (λp=>E1.fresh) q1))
  ·exact q1.elim
 ·rename_i j
  split at q1
  ·rename_i hk
   rw[Bool.and_eq_true]at hk;obtain⟨k2,k3⟩:=hk;obtain⟨c3,c4⟩:=g9 k2
   have k3:=of_decide_eq_true k3;obtain⟨v,rfl,r2⟩:=rs.one;cases Rep.int_iff.mp r2
   cases r1 with
   | cons ra rr=>
    cases rr;obtain⟨t,rfl⟩:=ra;exact call_range_1 (Calls.spliced_nil (qH (I.ok.hd hc) I1 (by omega) (by omega) c3 c4 (by rw[Int.sub_zero];exact k3) (λp=>E1.fresh) q1))
  ·exact q1.elim
 ·exact q1.elim
end Tr
namespace L2
open PySem PySem.Spec PyProof.Rows
section
variable {κ:Type}[DecidableEq κ]
def ip (kvs:List (κ×V))(k:κ):Option V:=(kvs.find? λkv=>decide (kv.1=k)).map (·.2)
def cK (kvs:List (κ×V))(k:κ)(v:V):List (κ×V):=
 if (kvs.any λkv=>decide (kv.1=k))=true then kvs.map (λkv=>if kv.1=k then(kv.1,v)else kv)else kvs++ [(k,v)]
theorem sU {k:κ}:ip ([]:List (κ×V)) k=none:=rfl
theorem iI {p:κ×V}{r:List (κ×V)}{k:κ}(e:p.1=k):ip (p::r) k=some p.2:=by simp[ip,List.find?_cons,e]
theorem iJ {p:κ×V}{r:List (κ×V)}{k:κ}(e:¬ p.1=k):ip (p::r) k=ip r k:=by simp[ip,List.find?_cons,e]
theorem n5 (k:κ):∀kvs:List (κ×V),(kvs.any λkv=>decide (kv.1=k))=(ip kvs k).isSome
 | [] =>rfl
 | p::r=>by
  rw[List.any_cons]
  by_cases e:p.1=k
  ·simp only[iI e,decide_eq_true e,Bool.true_or,Option.isSome_some]
  ·rw[iJ e,decide_eq_false e,Bool.false_or];exact n5 k r
theorem dq (kvs:List (κ×V))(k:κ)(v:V):(cK kvs k v).length<=kvs.length+1:=by
 unfold cK;split
 ·rw[List.length_map];omega
 ·rw[List.length_append,List.length_cons,List.length_nil];omega
theorem RelO.isSome_eq {o:Option V}{u:Option Value}(r:RelO o u):o.isSome=u.isSome:=by
 cases o with
 | none=>cases u with
  | none=>rfl
  | some _=>exact(show False from r).elim
 | some _=>cases u with
  | none=>exact(show False from r).elim
  | some _=>rfl
theorem RelO.getD {o:Option V}{u:Option Value}{d:V}{d':Value}(r:RelO o u)(rd:RelV d d'):RelV (o.getD d) (u.getD d'):=by
 cases o with
 | none=>cases u with
  | none=>exact rd
  | some _=>exact(show False from r).elim
 | some _=>cases u with
  | none=>exact(show False from r).elim
  | some _=>exact r
theorem KV.val {kvs:List (κ×V)}{vs:List (κ×Value)}(r:KV kvs vs)(k:κ):RelO (ip kvs k) (valueAt vs k):=by
 unfold KV at r
 induction r with
 | nil=>exact True.intro
 | @cons p q ps qs h t ih=>
  obtain⟨h1,h2⟩:=h
  by_cases e:p.1=k
  ·have e':q.1=k:=h1.symm.trans e
   have b:valueAt (q::qs) k=some q.2:=by simp[valueAt,List.find?_cons,e']
   rw[iI e,b];exact h2
  ·have e':¬ q.1=k:=λz=>e (h1.trans z)
   have b:valueAt (q::qs) k=valueAt qs k:=by simp[valueAt,List.find?_cons,e']
   rw[iJ e,b];exact ih
theorem KV.any {kvs:List (κ×V)}{vs:List (κ×Value)}(r:KV kvs vs)(k:κ):(kvs.any λkv=>decide (kv.1=k))=vs.any λkv=>decide (kv.1=k):=by
 unfold KV at r
 induction r with
 | nil=>rfl
 | cons h t ih=>rw[List.any_cons,List.any_cons,ih,h.1]
theorem KV.repl {kvs:List (κ×V)}{vs:List (κ×Value)}(r:KV kvs vs)(k:κ){y:V}{u:Value}(ry:RelV y u) :
  KV (kvs.map λkv=>if kv.1=k then(kv.1,y)else kv) (vs.map λkv=>if kv.1=k then(kv.1,u)else kv):=by
 unfold KV at r ⊢
 induction r with
 | nil=>exact .nil
 | @cons p q ps qs h t ih=>
  rw[List.map_cons,List.map_cons];refine .cons ?_ ih
  obtain⟨h1,h2⟩:=h
  by_cases e:p.1=k
  ·rw[if_pos e,if_pos (h1.symm.trans e)];exact⟨h1,ry⟩
  ·rw[if_neg e,if_neg (λz=>e (h1.trans z))];exact⟨h1,h2⟩
theorem KV.put {kvs:List (κ×V)}{vs:List (κ×Value)}(r:KV kvs vs)(k:κ){y:V}{u:Value}(ry:RelV y u):KV (cK kvs k y) (stored vs k u):=by
 unfold cK stored;rw[r.any k]
 by_cases e:(vs.any λkv=>decide (kv.1=k))=true
 ·rw[if_pos e,if_pos e];exact r.repl k ry
 ·rw[if_neg e,if_neg e];exact Paired.snoc r ⟨rfl,ry⟩
theorem KV.length {kvs:List (κ×V)}{vs:List (κ×Value)}(r:KV kvs vs):kvs.length=vs.length:=Paired.length r
end
theorem qT {P:Program}{w:World}{k:Key}{u:Value}(r:RelV (kV k) u):(bU P w).is k u=true:=by
 cases k with
 | inl i=>obtain⟨t,e⟩:=(show ∃t,u=Value.int i t from r);subst e;exact oY P w i t
 | inr x=>obtain⟨t,e⟩:=(show ∃t,u=Value.str x t from r);subst e;exact oX P w x t
theorem mh {P:Program}{w:World}:∀{ks:List Key} {us:List Value},Vals (ks.map kV) us->ItemsAre (bU P w) ks us
 | [],_,r=>by rw[List.map_nil]at r;cases r;exact .nil
 | k::ks,_,r=>by
  rw[List.map_cons]at r
  cases r with
  | cons h t=>exact .cons (qT h) (mh t)
abbrev KT (H:Hp):List (List Key×V)->List (List Key×Addr×Value)->Prop:=Paired λp q=>p.1=q.1/\H q.2.1=some (.tup (p.1.map kV))/\RelV p.2 q.2.2
theorem KT.val {H:Hp}{kvs:List (List Key×V)}{xs:List (List Key×Addr×Value)}(r:KT H kvs xs)(k:List Key):RelO (ip kvs k) ((atKey xs k).map (·.2)):=by
 induction r with
 | nil=>exact True.intro
 | @cons p q ps qs h t ih=>
  obtain⟨h1,_,h2⟩:=h
  by_cases e:p.1=k
  ·have e':q.1=k:=h1.symm.trans e
   have b:atKey (q::qs) k=some q.2:=by simp[atKey,List.find?_cons,e']
   rw[iI e,b];exact h2
  ·have e':¬ q.1=k:=λz=>e (h1.trans z)
   have b:atKey (q::qs) k=atKey qs k:=by simp[atKey,List.find?_cons,e']
   rw[iJ e,b];exact ih
theorem KT.repl {H:Hp}{kvs:List (List Key×V)}{xs:List (List Key×Addr×Value)}(r:KT H kvs xs)(k:List Key){y:V}{u:Value}(ry:RelV y u) :
  KT H (kvs.map λkv=>if kv.1=k then(kv.1,y)else kv) (xs.map (putAt k u)):=by
 induction r with
 | nil=>exact .nil
 | @cons p q ps qs h t ih=>
  rw[List.map_cons,List.map_cons];refine .cons ?_ ih
  obtain⟨h1,h2,h3⟩:=h;unfold putAt
  by_cases e:p.1=k
  ·rw[if_pos e,if_pos (h1.symm.trans e)];exact⟨h1,h2,ry⟩
  ·rw[if_neg e,if_neg (λz=>e (h1.trans z))];exact⟨h1,h2,h3⟩
theorem KT.put {H:Hp}{kvs:List (List Key×V)}{xs:List (List Key×Addr×Value)}(r:KT H kvs xs)(k:List Key){b:Addr}{y:V}{u:Value}(hb:H b=some (.tup (k.map kV)))(ry:RelV y u) :
  KT H (cK kvs k y) (storedH xs k b u):=by
 have e:(kvs.any λkv=>decide (kv.1=k))=(atKey xs k).isSome:=by
  rw[n5,(r.val k).isSome_eq,Option.isSome_map]
 unfold cK storedH;rw[e]
 by_cases q:(atKey xs k).isSome=true
 ·rw[if_pos q,if_pos q];exact r.repl k ry
 ·rw[if_neg q,if_neg q];exact Paired.snoc r ⟨rfl,hb,ry⟩
theorem KT.keeps {H H':Hp}{kvs:List (List Key×V)}{xs:List (List Key×Addr×Value)}(r:KT H kvs xs)(ht:∀b ys,H b=some (.tup ys)->H' b=some (.tup ys)):KT H' kvs xs:=
 Paired.mapP r λ_ _ z=>⟨z.1,ht _ _ z.2.1,z.2.2⟩
section
variable {P:Program}{w:World}{H:Hp}{h:Heap}{a:Addr}
theorem lX {u:HO}(ok:HOk P w H h)(e:Rd H a u):ObjOk P w H h a u:=e.ok ok
theorem pv {kvs:List (Key×V)}(ok:HOk P w H h)(e:Rd H a (.dK kvs)):kvs.length<=sizeLine/\(a == sysModules)=false/\∃vs,KV kvs vs/\h.DictOf (bU P w) a vs:=
 show ObjOk P w H h a (.dK kvs)from lX ok e
theorem BZ {kvs:List (Key×V)}(ok:HOk P w H h)(e:H a=some (.dK kvs)):kvs.length<=sizeLine/\(a == sysModules)=false/\∃vs,KV kvs vs/\h.DictOf (bU P w) a vs:=pv ok (.inl e)
theorem jp {ks:List Key}(ok:HOk P w H h)(e:H a=some (.tup (ks.map kV))):(tupleKind (bU P w)).is h ks a:=by
 obtain⟨_,its,r,o,h1,h2,n,h3⟩:=(show ObjOk P w H h a (.tup (ks.map kV))from ok a _ e)
 exact⟨o,its.toArray,n,h1,h2,h3,by simpa using mh r⟩
theorem pi {kvs:List (List Key×V)}(ok:HOk P w H h)(e:Rd H a (.dT kvs)):kvs.length<=sizeLine/\(a == sysModules)=false ∧
  ∃xs,KT H kvs xs/\h.DictOfH (tupleKind (bU P w)) a xs:=by
 obtain⟨z,y,xs,r,o,es,ep,h1,h2,h3,h4,h5⟩:=(show ObjOk P w H h a (.dT kvs)from lX ok e)
 refine⟨z,y,xs,r,o,es,ep,h1,h2,h3,h4,λx hx=> ?_,h5⟩
 have all:∀{l:List (List Key×V)} {m:List (List Key×Addr×Value)},KT H l m->∀x∈m,(tupleKind (bU P w)).is h x.1 x.2.1:=by
  intro l m q
  induction q with
  | nil=>intro x hx;exact nomatch hx
  | @cons p q ps qs hq t ih=>
   intro x hx;rcases List.mem_cons.mp hx with e | hx
   ·subst e
    exact jp ok (by rw[<-hq.1];exact hq.2.1)
   ·exact ih x hx
 exact all r x hx
theorem re {kvs:List (List Key×V)}(ok:HOk P w H h)(e:H a=some (.dT kvs)):kvs.length<=sizeLine/\(a == sysModules)=false ∧
  ∃xs,KT H kvs xs/\h.DictOfH (tupleKind (bU P w)) a xs:=pi ok (.inl e)
end
def DGet (H:Hp)(a:Addr)(y:V)(r:Option V):Prop:=
 (∃kvs k,Rd H a (.dK kvs)/\y=kV k/\r=ip kvs k)\/∃kvs k b,Rd H a (.dT kvs)/\y= .ref b/\H b=some (.tup (k.map kV))/\r=ip kvs k
def DPut (H:Hp)(a:Addr)(y v:V)(H':Hp):Prop:=
 (∃kvs k,H a=some (.dK kvs)/\y=kV k/\kvs.length<sizeLine/\H'=upd H a (.dK (cK kvs k v))) ∨
 ∃kvs k b,H a=some (.dT kvs)/\y= .ref b/\H b=some (.tup (k.map kV))/\kvs.length<sizeLine/\H'=upd H a (.dT (cK kvs k v))
theorem DGet.t {H:Hp}{a b:Addr}{kvs:List (List Key×V)}{k:List Key}(e:H a=some (.dT kvs))(eb:H b=some (.tup (k.map kV))):DGet H a (.ref b) (ip kvs k):=.inr ⟨kvs,k,b,.inl e,rfl,eb,rfl⟩
theorem DPut.t {H:Hp}{a b:Addr}{kvs:List (List Key×V)}{k:List Key}{v:V}(e:H a=some (.dT kvs))(eb:H b=some (.tup (k.map kV)))(hl:kvs.length<sizeLine) :
  DPut H a (.ref b) v (upd H a (.dT (cK kvs k v))):=.inr ⟨kvs,k,b,e,rfl,eb,hl,rfl⟩
section
variable {X:Cx}{pins:List (Addr×Obj)}{σ:St}{H:Hp}{s:Shared}{a:Addr}{y v:V}{u r:Value}{o:Option V}{A:Around}{E:Value->Shared->Prop}
theorem Inv.big (I:Inv X pins σ H s):sysModules<s.heap.objs.size:=by
 have h:mainGlobals<s.heap.objs.size:=(I.mod.glob.keeps I.bk).lt;exact Nat.lt_trans (by decide) h
theorem sA {Q:Value->Shared->Prop}(hu:A.units+1<cLine)(I:Inv X pins σ H s)(g:DGet H a y (some v))(ry:RelV y u)(h:∀w' s',Inv X pins σ H s'->RelV v w'->Q w' s') :
  wpAny (model X.prog X.w) A (getItem (.ref a) u) Q E s:=by
 rcases g with⟨kvs,k,e,ey,l⟩ | ⟨kvs,k,b,e,ey,eb,l⟩
 ·subst ey
  obtain⟨z,hd,vs,rel,dd⟩:=pv I.hok e;obtain⟨w',hw,rw'⟩:=RelO.some_of (v:=v) (o:=valueAt vs k) (by rw[l];exact rel.val k)
  exact wpAny_getItem_of (qT ry) dd.mapOf hw (h w' _ (I.tok _) rw')
 ·subst ey
  cases (show u=Value.ref b from ry)
  obtain⟨z,hd,xs,rel,dd⟩:=pi I.hok e;obtain⟨w',hw,rw'⟩:=RelO.some_of (v:=v) (o:=(atKey xs k).map (·.2)) (by rw[l];exact rel.val k)
  obtain⟨p,hp,hp2⟩:=Option.map_eq_some_iff.mp hw;refine wpAny_getItem_heap (tupleKind_room_in1 hu) (jp I.hok eb) dd hp ?_
  rw[hp2];exact h w' _ (I.tok _) rw'
theorem kl {h':Heap}{t':Nat}{ob:HO}(I:Inv X pins σ H s)(mu:B5 (H a))(hs:Heap.SameBut a s.heap h')(he:∃q,h'.get? a=some q)(new:ObjOk X.prog X.w (upd H a ob) h' a ob) :
  Inv X pins σ (upd H a ob) { s with heap:=h',toks:=t' }:=
 I.write (x:=a) (e:=a) mu (.inl rfl) (λb q hb z=>(hs.2 b hb).trans z) he new
theorem Ae {P:Program}{w:World}{H':Hp}{h':Heap}{kvs:List (Key×V)}{vs:List (Key×Value)}(z:kvs.length<=sizeLine)(hd:(a == sysModules)=false)(rel:KV kvs vs)(dd:h'.DictOf (bU P w) a vs) :
  ObjOk P w H' h' a (.dK kvs):=⟨z,hd,vs,rel,dd⟩
theorem sy {H':Hp}{Q:Unit->Shared->Prop}(hu:A.units+1<cLine)(I:Inv X pins σ H s)(g:DPut H a y v H')(ry:RelV y u)(rv:RelV v r)(h:∀s',Inv X pins σ H' s'->Q () s') :
  wpAny (model X.prog X.w) A (setItem (.ref a) u r) Q E s:=by
 rcases g with⟨kvs,k,e,ey,l,eH⟩ | ⟨kvs,k,b,e,ey,eb,l,eH⟩
 ·subst ey eH
  obtain⟨z,hd,vs,rel,dd⟩:=BZ I.hok e
  have hz:vs.length<=sizeLine:=by rw[<-rel.length];exact z
  have hl:(cK kvs k v).length<=sizeLine:=by have:=dq kvs k v;omega
  refine wpAny_setItem_pairs (hsz:=hz) (qT ry) dd λh' dd' hs=>h _ ?_
  have he:∃q,h'.get? a=some q:=let ⟨q,_,_,hq,_⟩:=dd';⟨q,hq⟩
  exact kl I (by rw[e];exact True.intro) hs he (Ae hl hd (rel.put k rv) dd')
 ·subst ey eH
  cases (show u=Value.ref b from ry)
  obtain⟨z,hd,xs,rel,dd⟩:=re I.hok e
  have hz:xs.length<=sizeLine:=by rw[<-Paired.length rel];exact z
  have hl:(cK kvs k v).length<=sizeLine:=by have:=dq kvs k v;omega
  refine wpAny_setItem_heap (hsz:=hz) (tupleKind_room_in1 hu) (jp I.hok eb) dd λh' dd' hs=>h _ ?_
  obtain⟨q,es,ep,hq,h2,h3,h4,_,h5⟩:=dd';refine kl I (by rw[e];exact True.intro) hs ⟨q,hq⟩ ⟨hl,hd,_,(rel.put k eb rv).keeps λc ys ec=> ?_,q,es,ep,hq,h2,h3,h4,h5⟩
  rw[aG (kZ ec e (λz=>nomatch z))]
  exact ec
end
def xP (i:Expr):Prop:=∀ov iv,subscripted i false ov iv=operate [ov,iv] (getItem ov iv)
theorem vX {prog:Program}{w:World}{A:Around}{E:Value->Shared->Prop}{s:Shared}{env:Env}{value slice:Expr}{pos:Pos}{T id:String}{Q:Value->Shared->Prop}
  (hl:typeLookup (.type T) "__getitem__" =pure (some (.builtin id))) (hs:xP slice)
  (h:wpAny (model prog w) A (eval value env) (λo s₁=>wpAny (model prog w) A (eval slice env) (λi s₂=>s₂.TypeIs o T/\wpAny (model prog w) A (getItem o i) Q E s₂) E s₁) E s) :
  wpAny (model prog w) A (eval (.Subscript value slice pos) env) Q E s:=by
 refine Subscript_ (wpAny_mono h (λo s₁ h₁=>wpAny_mono h₁ (λi s₂ h₂=> ?_) λ_ _ x=>x) λ_ _ x=>x)
 obtain⟨hT,h₂⟩:=h₂;unfold subscriptTail;refine wpAny_bind ?_
 rw[getitemInPython_of_ne hT.not_modules];refine wpAny_bind (wpAny_specialOf hT hl ?_)
 have fin:wpAny (model prog w) A (subscripted slice false o i) (λr s₃=>wpAny (model prog w) A (letTemporaryGo value o r >>= λ_=>pure r) Q E s₃) E s₂:=by
  rw[hs o i];exact wpAny_operating (wpAny_mono h₂ (λr s₃ h₃=>wpAny_bind (wpAny_letTemporaryGo (wpAny_pure h₃))) λ_ _ x=>x)
 first
  | exact wpAny_pure (wpAny_bind fin)
  | exact wpAny_bind (wpAny_pure (wpAny_bind fin))
  | exact wpAny_bind fin
theorem pw {X:Cx}{pins:List (Addr×Obj)}{σ:St}{H:Hp}{s:Shared}{a:Addr}{y:V}{o:Option V}(I:Inv X pins σ H s)(g:DGet H a y o):s.TypeIs (.ref a) "dict":=by
 rcases g with⟨kvs,k,e,_,_⟩ | ⟨kvs,k,b,e,_,_,_⟩
 ·obtain⟨_,_,vs,_,dd⟩:=pv I.hok e
  exact dd.typeIs
 ·obtain⟨_,_,xs,_,dd⟩:=pi I.hok e
  exact dd.typeIs
def AJ (td ty:TE):TE:=λσ H Q=>td σ H λx H1=>ty σ H1 λy H2=> ∃a v,x= .ref a/\DGet H2 a y (some v)/\Q v H2
def AN (td ty tv:TE):TS:=λD σ H=>tv σ H λv H1=>td σ H1 λx H2=>ty σ H2 λy H3=> ∃a H4,x= .ref a/\DPut H3 a y v H4/\D.nx σ H4
section
variable {X:Cx}{o i e value:Expr}{pos pos' tpos:Pos}{td ty tv:TE}
theorem wT (hu:X.A.units+1<cLine)(ho:PE X o td)(hi:PE X i ty)(hs:xP i):PE X (.Subscript o i pos) (AJ td ty):=by
 intro pins s σ H Q I h;refine vX PySem.F.slot_dict_getitem.lookup hs (cf (ho pins s σ H _ I h) λu s1 ⟨x,H1,I1,rx,q1⟩=>cf (hi pins s1 σ H1 _ I1 q1) λiv s2 hh_=> ?_)
 obtain⟨y,H2,I2,ry,a,v,ex,g,q2⟩:=hh_;subst ex;obtain rfl:u=Value.ref a:=rx;exact⟨pw I2 g,sA hu I2 g ry λw' s3 I3 rw'=>⟨v,H2,I3,rw',q2⟩⟩
theorem wI (hu:X.A.units+1<cLine)(ho:PE X o td)(hi:PE X i ty)(hv:PE X value tv)(hs:swapsWith value (some (.Subscript o i pos')) pos.line X.env=pure false) :
  PS X (.Assign [.Subscript o i pos'] value pos) (AN td ty tv):=by
 intro pins s σ H D I h;refine wpAny_Assign_Subscript (cf (hv pins s σ H _ I h) λr s1 ⟨v,H1,I1,rv,q1⟩=>cf (ho pins s1 σ H1 _ I1 q1) λu s2 ⟨x,H2,I2,rx,q2⟩=>cf (hi pins s2 σ H2 _ I2 q2) λiv s3 ⟨y,H3,I3,ry,a,H4,ex,g,q3⟩=> ?_) hs
 subst ex;obtain rfl:u=Value.ref a:=rx;exact sy hu I3 g ry rv λs4 I4=>⟨σ,H4,I4,q3⟩
end
theorem pj {P:Program}{w:World}{H:Hp}(h:Heap)(hb:sysModules<h.objs.size):ObjOk P w H (h.push { cls:=.type "dict",data:=.dict #[] }) h.objs.size (.dT []):=
 ⟨Nat.zero_le _,beq_eq_false_iff_ne.mpr (Ne.symm (Nat.ne_of_lt hb)),[],.nil,_,#[],0,Heap.get?_push_size _ rfl,⟨rfl,rfl,rfl⟩,rfl,rfl,List.nodup_nil⟩
structure M1 (X:Cx)(o:Expr)(m:Str)(apos:Pos)(e:Expr)(cpos:Pos):Prop where
 base:attributeBase o m X.env (eval o X.env)=eval o X.env
 few:((backTo cpos (starEach [e] X.env)).all (λx=> !x.1)&&(backToKw cpos (keywordEach [] X.env)).all (λx=>x.1.isSome)
  &&decide (([e]:List Expr).length+([]:List Keyword).length+(if ([]:List Keyword).isEmpty then 0 else 1)<30))=true
 line:(apos.endLine == cpos.line)=true
 trees:backTo cpos (starEach [e] X.env)= [(false,eval e X.env)]
structure M2 (X:Cx)(o:Expr)(m:Str)(apos:Pos)(e f:Expr)(cpos:Pos):Prop where
 base:attributeBase o m X.env (eval o X.env)=eval o X.env
 few:((backTo cpos (starEach [e,f] X.env)).all (λx=> !x.1)&&(backToKw cpos (keywordEach [] X.env)).all (λx=>x.1.isSome)
  &&decide (([e,f]:List Expr).length+([]:List Keyword).length+(if ([]:List Keyword).isEmpty then 0 else 1)<30))=true
 line:(apos.endLine == cpos.line)=true
 trees:backTo cpos (starEach [e,f] X.env)= [(false,eval e X.env),(false,eval f X.env)]
def IsD (H:Hp)(a:Addr):Prop:=(∃kvs,Rd H a (.dK kvs))\/∃kvs,Rd H a (.dT kvs)
theorem zU {X:Cx}{pins:List (Addr×Obj)}{σ:St}{H:Hp}{s:Shared}{a:Addr}(I:Inv X pins σ H s)(d:IsD H a) :
  s.TypeIs (.ref a) "dict"/\(∀b,Value.ref a= .ref b->∃ob,s.heap.get? b=some ob/\ob.dict=none)/\(a == sysModules)=false:=by
 rcases d with⟨kvs,e⟩ | ⟨kvs,e⟩
 ·obtain⟨_,hd,vs,_,dd⟩:=pv I.hok e
  refine⟨dd.typeIs,λb q=> ?_,hd⟩
  cases q;obtain⟨ob,_,_,h1,h2,_⟩:=dd;exact⟨ob,h1,h2.2.1⟩
 ·obtain⟨_,hd,xs,_,dd⟩:=pi I.hok e
  refine⟨dd.typeIs,λb q=> ?_,hd⟩
  cases q;obtain⟨ob,_,_,h1,h2,_⟩:=dd;exact⟨ob,h1,h2.2.1⟩
section
variable {X:Cx}{pins:List (Addr×Obj)}{σ:St}{H:Hp}{s:Shared}{a:Addr}{y d:V}{u r:Value}{o:Option V}{A:Around}{E:Value->Shared->Prop}
theorem Ag {Q:Value->Shared->Prop}(hu:A.units+1<cLine)(I:Inv X pins σ H s)(g:DGet H a y o)(ry:RelV y u)(h:∀w' s',Inv X pins σ H s'->RelV (o.getD .non) w'->Q w' s') :
  wpAny (model X.prog X.w) A (call (.builtin "dict.get") [.ref a,u]) Q E s:=by
 rcases g with⟨kvs,k,e,ey,l⟩ | ⟨kvs,k,b,e,ey,eb,l⟩
 ·subst ey
  obtain⟨z,hd,vs,rel,dd⟩:=pv I.hok e;refine call_meetsIn PySem.F.slot_dict_get dd.typeIs PySem.F.entry_dict_get (PySem.F.args_dict_get_2 _ _) (meets_dict_get (bU X.prog X.w) a (qT ry) hd) ⟨_,dd.mapOf,h _ _ (I.tok _) ?_⟩
  rw[l];exact(rel.val k).getD rfl
 ·subst ey
  cases (show u=Value.ref b from ry)
  obtain⟨z,hd,xs,rel,dd⟩:=pi I.hok e;refine call_meetsIn PySem.F.slot_dict_get dd.typeIs PySem.F.entry_dict_get (PySem.F.args_dict_get_2 _ _) (meetsH_dict_get (tupleKind (bU X.prog X.w)) a b hd) ⟨tupleKind_room_in1 hu,k,xs,jp I.hok eb,dd,h _ _ (I.tok _) ?_⟩
  rw[l];exact(rel.val k).getD rfl
end
def yy (td ty:TE):TE:=λσ H Q=>td σ H λx H1=> ∃a,x= .ref a/\IsD H1 a/\ty σ H1 λy H2=> ∃o,DGet H2 a y o/\Q (o.getD .non) H2
section
variable {X:Cx}{o e f:Expr}{apos cpos:Pos}{td ty tx:TE}
theorem tZ (hu:X.A.units+1<cLine)(ho:PE X o td)(he:PE X e ty)(m:M1 X o "get" apos e cpos):PE X (.Call (.Attribute o "get" apos) [e] [] cpos) (yy td ty):=by
 intro pins s σ H Q I h;refine wpAny_Call_method m.base m.few m.line PySem.F.plainAttrs_dict PySem.F.slot_dict_get PySem.F.type_dict_get (cf (ho pins s σ H _ I h) λu s1 hh_=> ?_)
 obtain⟨x,H1,I1,rx,a,ex,d,q1⟩:=hh_;subst ex;obtain rfl:u=Value.ref a:=rx;obtain⟨t1,t2,_⟩:=zU I1 d;refine⟨t1,t2,?_⟩
 rw[m.trees];refine Calls.callWith_builtin rfl (Calls.evalArgs_plain (Calls.spliced_cons (cf (he pins s1 σ H1 _ I1 q1) λiv s2 ⟨y,H2,I2,ry,ov,g,q2⟩=>Calls.spliced_nil ?_)))
 exact Ag hu I2 g ry λw' s3 I3 rw'=>⟨_,H2,I3,rw',q2⟩
end
end L2
namespace Tr
open PySem PySem.Spec PyProof.Rows L2
theorem Av {k:Nat}{A:Around}(h:Room k A):A.units+1<cLine:=by have:=h.un;omega
theorem lb {K:PySem.W.Frag}{O:Ow}{H:Hp}:∀{l:List T} {vs:List V} {k:List Key},ld l=some k->Reps K O H l vs->vs=k.map kV
 | [],vs,k,h,r=>by cases Reps.nil_iff.mp r;cases h;rfl
 | t::l,vs,k,h,r=>by
  obtain⟨v,ws,rfl,p,q⟩:=Reps.cons_iff.mp r;unfold ld at h
  cases e1:yd t with
  | none=>rw[e1]at h;cases h
  | some a=>
   cases e2:ld l with
   | none=>rw[e1,e2]at h;cases h
   | some b=>
    rw[e1,e2]at h;cases h;rw[lb e2 q,List.map_cons]
    congr 1
    cases t with
    | int i=>cases e1;exact Rep.int_iff.mp p
    | str x=>cases e1;exact Rep.str_iff.mp p
    | _=>cases e1
theorem i7 {K:PySem.W.Frag}{O:Ow}{H:Hp}{y:T}{v:V}{k:List Key}(h:keyOf y=some k)(r:Rep K O H y v):∃b,v= .ref b/\H b=some (.tup (k.map kV)):=by
 cases y with
 | tup l=>
  obtain⟨a,vs,e1,_,e3,e4⟩:=Rep.tup_iff.mp r;rw[lb h e4]at e3
  exact⟨a,e1,e3⟩
 | _=>cases h
theorem lm {K:PySem.W.Frag}{O:Ow}{H:Hp}{k:List Key}:∀{ks ts:List T} {kvs:List (List Key×V)},ks.map keyOf=kvs.map (λp=>some p.1)->Reps K O H ts (kvs.map (·.2))->match lp ks ts k with
  | some t=> ∃v,ip kvs k=some v/\Rep K O H t v
  | none=>ip kvs k=none
 | [],ts,kvs,h,r=>by
  cases kvs with
  | nil=>unfold lp;exact sU
  | cons _ _=>cases h
 | k'::ks,ts,kvs,h,r=>by
  cases kvs with
  | nil=>cases h
  | cons p kvs=>
   rw[List.map_cons,List.map_cons]at h;injection h with h1 h2
   rw[List.map_cons]at r
   cases ts with
   | nil=>have:=Reps.nil_iff.mp r;cases this
   | cons t ts=>
    obtain⟨v,ws,e,q1,q2⟩:=Reps.cons_iff.mp r;injection e with e1 e2
    subst e1 e2;unfold lp
    by_cases hk:keyOf k'=some k
    ·rw[if_pos hk]
     rw[h1]at hk;injection hk with hk
     exact⟨_,iI hk,q1⟩
    ·rw[if_neg hk]
     have hk2:¬ p.1=k:=λz=>hk (by rw[h1,z])
     rw[iJ hk2];exact lm h2 q2
theorem mW {κ:Type}[DecidableEq κ]{k:κ}{p:κ×V}{r:List (κ×V)}{v:V}(h:¬ p.1=k):cK (p::r) k v=p::cK r k v:=by
 unfold cK;rw[List.any_cons,decide_eq_false h,Bool.false_or]
 by_cases q:(r.any λkv=>decide (kv.1=k))=true
 ·rw[if_pos q,if_pos q,List.map_cons,if_neg h]
 ·rw[if_neg q,if_neg q];rfl
theorem mX {κ:Type}[DecidableEq κ]{k:κ}{p:κ×V}{r:List (κ×V)}{v:V}(h:p.1=k)(hn:∀q∈r,q.1≠k):cK (p::r) k v=(p.1,v)::r:=by
 unfold cK;rw[List.any_cons,decide_eq_true h,Bool.true_or,if_pos rfl,List.map_cons,if_pos h]
 congr 1
 conv=>rhs;rw[<-List.map_id r]
 exact List.map_congr_left λq hq=>if_neg (hn q hq)
theorem lj {K:PySem.W.Frag}{O:Ow}{H:Hp}{kT vT:T}{k:List Key}{v:V}(hk:keyOf kT=some k)(hv:Rep K O H vT v):∀{ks ts:List T} {kvs:List (List Key×V)},ks.map keyOf=kvs.map (λp=>some p.1)->Reps K O H ts (kvs.map (·.2))->(kvs.map (·.1)).Nodup →
  (ga kT vT ks ts).1.map keyOf=(cK kvs k v).map (λp=>some p.1)/\Reps K O H (ga kT vT ks ts).2 ((cK kvs k v).map (·.2))
 | [],ts,kvs,h,r,_=>by
  cases kvs with
  | nil=>
   unfold ga;refine⟨?_,Reps.cons_ hv Reps.nil_⟩
   simp[cK,hk]
  | cons _ _=>cases h
 | k'::ks,ts,kvs,h,r,hn=>by
  cases kvs with
  | nil=>cases h
  | cons p kvs=>
   rw[List.map_cons,List.map_cons]at h;injection h with h1 h2
   rw[List.map_cons]at r;rw[List.map_cons]at hn;obtain⟨n1,n2⟩:=List.nodup_cons.mp hn
   cases ts with
   | nil=>have:=Reps.nil_iff.mp r;cases this
   | cons t ts=>
    obtain⟨v',ws,e,q1,q2⟩:=Reps.cons_iff.mp r;injection e with e1 e2
    subst e1 e2;unfold ga
    by_cases hz:keyOf k'=keyOf kT
    ·rw[if_pos hz]
     have hp:p.1=k:=by rw[hz,hk]at h1;injection h1 with h1;exact h1.symm
     rw[mX hp λq hq z=>n1 (by rw[hp,<-z];exact List.mem_map_of_mem hq)]
     exact⟨by rw[List.map_cons,List.map_cons,h1,h2],Reps.cons_ hv q2⟩
    ·rw[if_neg hz]
     have hp:¬ p.1=k:=λz=>hz (by rw[h1,z,hk])
     obtain⟨a1,a2⟩:=lj hk hv h2 q2 n2;rw[mW hp];exact⟨by rw[List.map_cons,List.map_cons,h1,a1],Reps.cons_ q1 a2⟩
theorem xQ {H:Hp}{kvs:List (List Key×V)}{xs:List (List Key×Addr×Value)}(rel:KT H kvs xs):kvs.map (·.1)=xs.map (·.1):=by
 induction rel with
 | nil=>rfl
 | cons h t ih=>rw[List.map_cons,List.map_cons,ih,h.1]
theorem vi {X:Cx}{pins:List (Addr×Obj)}{σ:L2.St}{H:Hp}{s:Shared}{a:Addr}{kvs:List (List Key×V)}(I:Inv X pins σ H s)(e:H a=some (.dT kvs)):(kvs.map (·.1)).Nodup/\kvs.length<=sizeLine:=by
 obtain⟨z,_,xs,rel,_,_,_,_,_,_,_,_,hn⟩:=re I.hok e;rw[xQ rel];exact⟨hn,z⟩
section
variable {X:Cx}{a b:Expr}{fa fb:En->Rs T}{pos:Pos}
theorem A8 (hu:X.A.units+1<cLine)(ha:cg X a fa)(hb:cg X b fb)(hs:xP b:=by intro _ _;rfl):cg X (.Subscript a b pos) (o2 jt fa fb):=by
 refine PE.imp (wT hu ha hb hs) λσ H Q ⟨Z,O,E,hq⟩=> ?_
 obtain⟨Z1,O1,E1,h1⟩:=aS E hq;refine⟨Z1,O1,E1,Post.mono h1 λt H1 s1 q v r=> ?_⟩
 obtain⟨t',r',s',E',q'⟩:=q v r;obtain⟨Z2,O2,E2,h2⟩:=aS (f:=fb) E' q';refine⟨Z2,O2,E2,Post.mono h2 λt2 H2 s2 q2 v2 r2=> ?_⟩
 obtain⟨t2',r2',s2',E2',q2'⟩:=q2 v2 r2
 have r'':=r'.same s2';unfold jt at q2'
 split at q2'
 ·rename_i ks vs k hk
  split at q2'
  ·rename_i x hx
   obtain⟨a,kvs,e1,e2,e3,e4,e5⟩:=Rep.dct_iff.mp r'';obtain⟨b,f1,f2⟩:=i7 hk r2'
   have g:=lm (k:=k) e4 e5;rw[hx]at g;obtain⟨w,g1,g2⟩:=g;exact⟨a,w,e1,by rw[f1,<-g1];exact DGet.t e3 f2,q2' H2 (Same.refl H2) w g2⟩
  ·exact q2'.elim
 ·exact q2'.elim
end
end Tr
namespace Tr
open PySem PySem.Spec PyProof.Rows L2
open PySem.SeqAt
theorem uv {A:Around}{s:Shared}{x:T}{ux:Value}(rx:ReV s x ux)(hu:A.units+60<cLine){l:List T}{us:List Value}(hd:x.dep<=60\/deps l<=60)(r:ReVs s l us) :
  ∃e:Value->Bool,(∀y∈us,EqAt A s y ux (e y))/\us.map e=l.map λt=>aO t x:=by
 classical
 have ex:∀y∈us,∃t∈l,ReV s t y:=λy hy=>by
  obtain⟨i,hi,rfl⟩:=List.getElem_of_mem hy
  have hl:=r.length
  have e1:l[i]? =some l[i]:=by simp
  obtain⟨u,q1,q2⟩:=r.get e1
  have:us[i]? =some us[i]:=by simp
  rw[this]at q1;cases q1;exact⟨l[i],List.getElem_mem _,q2⟩
 let e:Value->Bool:=λy=>decide (∃t∈l,ReV s t y/\aO t x=true)
 have dep:∀t∈l,t.dep<=60\/x.dep<=60:=λt ht=>by
  rcases hd with h | h
  ·exact .inr h
  ·obtain⟨i,hi,rfl⟩:=List.getElem_of_mem ht
   exact .inl (Nat.le_trans (gG (i:=i) (by simp)) h)
 have uniq:∀y t t',ReV s t y->ReV s t' y->aO t x=aO t' x:=λy t t' z z'=>by
  rw[<-jc t,<-jc t',ReV.nf z z']
 have agree:∀y t,t∈l->ReV s t y->e y=aO t x:=λy t h z=>by
  show decide (∃t∈l,ReV s t y/\aO t x=true)=aO t x
  cases q:aO t x with
  | true=>exact decide_eq_true ⟨t,h,z,q⟩
  | false=>
   refine decide_eq_false ?_
   rintro ⟨t',h',z',q'⟩
   rw[<-uniq y t t' z z',q]at q';cases q'
 refine⟨e,λy hy=> ?_,?_⟩
 ·obtain⟨t,h,z⟩:=ex y hy
  rw[agree y t h z];exact(xr 60 A s t x y ux (dep t h) hu z rx).1
 ·have go:∀(l':List T) (us':List Value),(∀t∈l',t∈l)->ReVs s l' us'->us'.map e=l'.map λy=>aO y x:=by
   intro l'
   induction l' with
   | nil=>intro us' _ r';rw[ReVs.nil_iff.mp r'];rfl
   | cons t l' ih=>
    intro us' sub r';obtain⟨u,ws,rfl,p,q⟩:=ReVs.cons_iff.mp r';rw[List.map_cons,List.map_cons,ih ws (λt ht=>sub t (List.mem_cons_of_mem _ ht)) q,agree u t (sub t List.mem_cons_self) p]
  exact go l us (λ_ h=>h) r
theorem lg {x:T}:∀{l:List T} {n k:Nat},hU x l n=some k->n<=k/\(l.map λt=>aO t x)[k - n]? =some true/\∀m,m<k - n->(l.map λt=>aO t x)[m]? =some false
 | [],n,k,h=>by cases h
 | t::l,n,k,h=>by
  unfold hU at h
  cases q:aO t x with
  | true=>
   rw[q,if_pos rfl]at h;cases h;refine⟨Nat.le_refl _,?_,λm hm=>by omega⟩
   rw[Nat.sub_self,List.map_cons,q];rfl
  | false=>
   rw[q,if_neg (by decide)]at h
   obtain⟨h1,h2,h3⟩:=lg h
   have e:k - n=(k - (n+1))+1:=by omega
   refine⟨by omega,?_,λm hm=> ?_⟩
   ·rw[e,List.map_cons,List.getElem?_cons_succ];exact h2
   ·cases m with
    | zero=>rw[List.map_cons,q];rfl
    | succ m=>rw[List.map_cons,List.getElem?_cons_succ];exact h3 m (by omega)
section
variable {X:Cx}{a b:Expr}{fa fb:En->Rs T}{pos apos cpos:Pos}
theorem tK (hu:X.A.units+61<cLine)(ha:cg X a fa)(hb:cg X b fb)(hn:bS b=true:=by rfl)
  (hbase:attributeBase a "index" X.env (eval a X.env)=eval a X.env:=by rfl) (hline:(apos.endLine == cpos.line)=true:=by rfl):cg X (.Call (.Attribute a "index" apos) [b] [] cpos) (oL fD fa fb):=by
 have hs:starEach [b] X.env=(false,eval b X.env)::starEach [] X.env:=bh hn;intro pins s σ H Q I ⟨Z,O,E,hq⟩;refine wpAny_Call_method_late hbase (by rw[hs];rfl) hline rfl (cf (ha pins s σ H _ I (aS E hq)) λv s1 hh_=> ?_)
 obtain⟨x,H1,I1,r1,t,rt,s',E',q1⟩:=hh_
 cases t with
 | lst l=>
  obtain⟨c,vs,e1,e2,e3,e4⟩:=Rep.lst_iff.mp rt;subst e1;obtain rfl:v=Value.ref c:=r1;obtain⟨h1,h2⟩:=sX I1 (show RelV (.ref c) (.ref c)from rfl) (.inl ⟨rfl,vs,SqL.of e3⟩)
  refine⟨_,_,PySem.F.plainAttrs_list,PySem.F.slot_list_index,PySem.F.type_list_index,h1,h2,?_⟩
  rw[hs];refine Calls.callWith_builtin rfl (Calls.evalArgs_plain (Calls.spliced_cons (cf (hb pins s1 σ H1 _ I1 (aS (f:=fb) E' q1)) λu s2 ⟨y,H2,I2,r2,t2,rt2,s'',E'',q2⟩=>Calls.spliced_nil ?_)))
  unfold fD at q2
  split at q2
  ·rename_i l' heq
   cases heq
   split at q2
   ·rename_i hd3
    obtain⟨hd,hnx,hny⟩:=hd3
    split at q2
    ·rename_i k hk
     have rv:=Rep.val I2 (show(T.lst l).nd=true by unfold T.nd;exact hny) (rt.same s'') (show RelV (.ref c) (.ref c)from rfl)
     unfold ReV at rv;obtain⟨c',us,ec,hl,rs⟩:=rv;cases ec;obtain⟨⟨cls,dd,data,sl⟩,ho,hc,n,hdd⟩:=id hl;simp only at hc hdd;subst hc hdd;obtain⟨e,he,ha⟩:=uv (A:=X.A.in1) (Rep.val I2 hnx rt2 r2) (by show X.A.units+1+60<cLine;omega) hd rs
     obtain⟨_,k1,k2⟩:=lg hk;rw[Nat.sub_zero]at k1 k2;rw[<-ha]at k1 k2
     have hkl:k<us.length:=by have:=(List.getElem?_eq_some_iff.mp k1).1;rwa [List.length_map]at this
     have hz:us.length<=sizeLine:=by
      have z:=(I2.lstM (s'' _ _ e3)).1
      have h3:=rs.length
      have h4:=e4.length;omega
     refine call_meets F.slot_list_index ⟨_,ho,rfl⟩ F.entry_list_index (F.args_list_index_2 _ _) (list_indexAt c us.toArray n dd sl u e k (by simpa using hkl) (by rw[sizeLine_eq]at hz;omega) ?_ ?_) ⟨ho,λy hy=>he y (by simpa using hy),?_⟩
     ·have:=(List.getElem?_eq_some_iff.mp k1).2
      rw[List.getElem_map]at this
      simpa using this
     ·intro m hm hmk
      have:=(List.getElem?_eq_some_iff.mp (k2 m hmk)).2
      rw[List.getElem_map]at this
      simpa using this
     ·exact⟨.int _,H2,I2.tok _,⟨_,rfl⟩,q2 H2 (Same.refl H2) _ (Rep.int_ _)⟩
    ·exact q2.elim
   ·exact q2.elim
  ·rename_i hno
   exact(hno l rfl).elim
 | _=>exact q1.elim
theorem y1 (hu:X.A.units+1<cLine)(ha:cg X a fa)(hb:cg X b fb)(hn:bS b=true:=by rfl)
  (hbase:attributeBase a "get" X.env (eval a X.env)=eval a X.env:=by rfl) (hline:(apos.endLine == cpos.line)=true:=by rfl):cg X (.Call (.Attribute a "get" apos) [b] [] cpos) (oD gf fa fb):=by
 have hs:starEach [b] X.env=(false,eval b X.env)::starEach [] X.env:=bh hn;refine PE.imp (tZ hu ha hb ⟨hbase,by rw[hs];rfl,hline,by rw[hs];rfl⟩) λσ H Q ⟨Z,O,E,hq⟩=> ?_
 obtain⟨Z1,O1,E1,h1⟩:=aS E hq;refine⟨Z1,O1,E1,Post.mono h1 λt H1 s1 q v r=> ?_⟩
 obtain⟨t',r',s',E',q'⟩:=q v r
 cases t' with
 | dct ks vs=>
  obtain⟨c,kvs,e1,e2,e3,e4,e5⟩:=Rep.dct_iff.mp r';refine⟨c,e1,.inr ⟨kvs,.inl e3⟩,?_⟩
  obtain⟨Z2,O2,E2,h2⟩:=aS (f:=fb) E' q';refine⟨Z2,O2,E2,Post.mono h2 λt2 H2 s2 q2 v2 r2=> ?_⟩
  obtain⟨t2',r2',s2',E2',q2'⟩:=q2 v2 r2;unfold gf at q2'
  split at q2'
  ·rename_i ks' vs' k heq hk
   cases heq;obtain⟨b,f1,f2⟩:=i7 hk r2'
   have g:=lm (k:=k) e4 (e5.same s2');refine⟨ip kvs k,by rw[f1];exact DGet.t (s2' _ _ e3) f2,?_⟩
   cases hx:lp ks vs k with
   | some z=>
    rw[hx]at g q2';obtain⟨w,g1,g2⟩:=g;rw[g1]
    exact q2' H2 (Same.refl H2) w g2
   | none=>
    rw[hx]at g q2';rw[g];exact q2' H2 (Same.refl H2) .non Rep.non_
  ·exact q2'.elim
 | _=>exact q'.elim
end
end Tr
namespace Tr
open PySem PySem.Spec PyProof.Rows L2
section
variable {X:Cx}{a b c:Expr}{fa fb fc:En->Rs T}{pos p2 p3 p4:Pos}{x:Str}
theorem yN (i:Nat)(hu:X.A.units+1<cLine)(hb:cg X b fb)(hc:cg X c fc)(hN:X.N[i]? =some x:=by rfl)(hv:vt X.env.scope x:=by first | exact Or.inl rfl | exact Or.inr (Or.inl rfl) | exact Or.inr (Or.inr rfl))
  (hd:(x == ("__debug__" : Str))=false:=by decide) (hcd:(x == ("__classdict__" : Str))=false:=by decide)
  (hs:swapsWith c (some (.Subscript (.Name x p2) b p3)) pos.line X.env=pure false:=by rfl):nN X (.Assign [.Subscript (.Name x p2) b p3] c pos) (rM i fb fc):=by
 intro pins s σ H D I ⟨Z,B,M,E,h⟩;refine wI hu (mZ hN hv hd hcd) hb hc hs pins s σ H D I ?_
 unfold rM at h
 split at h
 ·rename_i ks vs hl
  obtain⟨v0,e1,d,kvs,rfl,hM,e3,e4,e5⟩:=E.env.own i _ hl;obtain⟨nd,nz⟩:=vi I e3;refine⟨Z,OO B M,E.o,?_⟩
  cases q:fc Z with
  | bad=>rw[q]at h;exact h.elim
  | err c=>rw[q]at h;exact PostF.xa h
  | ok vT=>
   rw[q,aC]at h;intro H1 s1 v r;refine⟨.ref d,e1,Z,OO B M,(E.same s1).o,?_⟩
   have h1:=h.later (SameO.of s1) (P1:=M.u) λa z=> .inl z
   cases q2:fb Z with
   | bad=>rw[q2]at h1;exact h1.elim
   | err c=>rw[q2]at h1;exact PostF.xa h1
   | ok kT=>
    rw[q2,aC]at h1;intro H2 s2 y ry
    cases q3:keyOf kT with
    | none=>rw[q3]at h1;exact h1.elim
    | some k=>
     rw[q3]at h1
     have h2:=h1.later (SameO.of s2) (P1:=M.u) λa z=> .inl z
     have hlen:ks.length=kvs.length:=by have:=congrArg List.length e4;simpa using this
     by_cases hz:ks.length<1000
     ·simp only[if_pos hz]at h2
      obtain⟨kb,f1,f2⟩:=i7 q3 ry
      have e3':=s2 _ _ (s1 _ _ e3);obtain⟨g1,g2⟩:=lj q3 (r.same s2) e4 ((e5.same s1).same s2) nd;refine⟨d,upd H2 d (.dT (cK kvs k v)),rfl,by rw[f1];exact DPut.t e3' f2 (by rw[sizeLine_eq];omega),?_⟩
      have sm:SameO (M i) H2 (upd H2 d (.dT (cK kvs k v))):=λc u e nb=>by rw[aG (λz=>nb ((hM c).mpr z))];exact e
      obtain⟨g3,g4⟩:=((E.same s1).same s2).put (o':=.dct (ga kT vT ks vs).1 (ga kT vT ks vs).2) hl e1 sm ⟨d,_,rfl,hM,aR,g1,g2.move (P:=M i) (λa z=> .inl (.inr ⟨i,z⟩)) (λa z=> .inl z) sm⟩
      exact h2 σ _ M g4 g3 λc z=> .inl z
     ·simp only[if_neg hz]at h2
      exact h2.elim
 ·exact h.elim
end
end Tr
namespace PySem
open Sem (wp)
namespace F
theorem lk_list_keys:typeLookup (.type "list") "keys" =pure none:=by rw[typeLookup_type,builtinLookup_eq_fast];kernel_rfl
theorem lk_list_getattr:typeLookup (.type "list") "__getattr__" =pure none:=by rw[typeLookup_type,builtinLookup_eq_fast];kernel_rfl
end F
section
variable {prog:Program}{w:World}{A:Around}{E:Value->Shared->Prop}{h:Heap}{g:Array GenState}{d:Drawn}{t:Nat}{os:OsState}{a:Addr}{its:Array Value}{n:Nat}
theorem jV {tk:Tok}{Q:Fin->Shared->Prop}(hx:h.get? a=some { cls:=.type "list",data:=.seq its n })(hh:A.handled=none)
  (hq:∀h' tk' e,Heap.NewAttrErr h h' e (.ref a) "keys"->E (.ref e) ⟨h',g,d,tk',os⟩) :
  wpAny (model prog w) A (Builtin.«object.__getattribute__» ⟨[.ref a,.str "keys" tk],[]⟩) Q E ⟨h,g,d,t,os⟩:=by
 have hT:(⟨h,g,d,t,os⟩:Shared).TypeIs (.ref a) "list":=⟨_,hx,rfl⟩
 have f4:=F.lk_list_keys
 repeat (any_goals (first | assumption | wp_step))
 exact wpAny_raiseAttrError hh (λh' tk e hx=>hq h' tk e hx) (attrMsg_fits (by decide+kernel) (by rw[sizeLine_eq];decide))
theorem k8 {tk:Tok}{R:Result->Shared->Prop}(hx:h.get? a=some { cls:=.type "list",data:=.seq its n })(hh:A.handled=none)
  (hq:∀h' tk' e,Heap.NewAttrErr h h' e (.ref a) "keys"->R (.error (.ref e)) ⟨h',g,d,tk',os⟩) :
  codeAny (model prog w) A (.call (.builtin "list.__getattribute__") ⟨[.ref a,.str "keys" tk],[]⟩) R ⟨h,g,d,t,os⟩:=
 codeAny_call_builtin F.slot_list_getattribute.plain F.entry_list_ga (F.slot_list_getattribute.check _ _ _ _ _ _ _ _ (show(⟨h,g,d,t,os⟩:Shared).TypeIs (.ref a) "list" from⟨_,hx,rfl⟩) (F.args_list_getattribute_2 _ _) (jV hx hh hq))
theorem k9 {Q:Option Value->Shared->Prop}(hx:h.get? a=some { cls:=.type "list",data:=.seq its n })(hh:A.handled=none)
  (hq:∀h' tk',(∀b o,h.get? b=some o->h'.get? b=some o)->Q none ⟨h',g,d,tk',os⟩):wpAny (model prog w) A (getAttr? (.ref a) "keys") Q E ⟨h,g,d,t,os⟩:=by
 have hT:∀tk,(⟨h,g,d,tk,os⟩:Shared).TypeIs (.ref a) "list":=λ_=>⟨_,hx,rfl⟩
 have f1:=sub_AttributeError
 have f2:=F.slot_list_getattribute.lookup
 have f3:=F.slot_list_getattribute.bind (.ref a)
 have f5:=F.lk_list_getattr;unfold getAttr? getAttrBy? getAttrBy
 repeat (any_goals (first | assumption | exact hT _ | wp_step))
 refine k8 hx hh λh' tk' e hx'=> ?_
 obtain⟨t',u',he⟩:=hx'.there
 repeat (any_goals (first | assumption | exact hT _ | wp_step))
 exact hq _ _ hx'.keeps
end
end PySem
namespace PySem.F
theorem entry_dict_update_loop:entryFor table "dict.update.loop" =some Builtin.«dict.update.loop»:=entryFor_of_tree (by kernel_rfl)
theorem plain_dict_update_loop:plainId "dict.update.loop" =true:=by decide+kernel
end PySem.F
namespace Tr
open PySem PySem.Spec PyProof.Rows L2
def fA (kvs:List (List Key×V)):List (List Key×V)->List (List Key×V)
 | [] =>kvs
 | p::ps=>fA (cK kvs p.1 p.2) ps
def PairsAt (H:Hp):List V->List (List Key×V)->Prop
 | [],ps=>ps= []
 | x::xs,ps=> ∃b kb p r,ps=p::r/\x= .ref b/\H b=some (.tup [.ref kb,p.2])/\H kb=some (.tup (p.1.map kV))/\PairsAt H xs r
theorem PairsAt.upd {H:Hp}{d:Addr}{kvs:List (List Key×V)}{o:HO}(hd:H d=some (.dT kvs)):∀{xs:List V} {ps:List (List Key×V)},PairsAt H xs ps->PairsAt (L2.upd H d o) xs ps
 | [],_,h=>h
 | x::xs,_,⟨b,kb,p,r,e1,e2,e3,e4,e5⟩=>⟨b,kb,p,r,e1,e2,by rw[aG (kZ e3 hd (λz=>nomatch z))];exact e3,by rw[aG (kZ e4 hd (λz=>nomatch z))];exact e4,e5.upd hd⟩
theorem gQ {H:Hp}{d:Addr}{a b:HO}:upd (upd H d a) d b=upd H d b:=by
 funext c
 by_cases h:c=d
 ·rw[h,aR,aR]
 ·rw[aG h,aG h,aG h]
section
variable {X:Cx}{pins:List (Addr×Obj)}{σ:L2.St}{A:Around}{res:Value}{R:Result->Shared->Prop}{d l it:Addr}{xs:List V}
theorem sk (hh:A.handled=none)(hu:A.units+3<cLine):∀(k i:Nat) (s:Shared) (H:Hp) (kvs ps:List (List Key×V)),xs.length - i=k->i<=xs.length->H l=some (.lst xs)->H d=some (.dT kvs)->kvs.length+(xs.length - i)<=1000->Inv X pins σ H s->s.heap.IsListIter it l i->jd X pins H it->PairsAt H (xs.drop i) ps →
  (∀s',Inv X pins σ (upd H d (.dT (fA kvs ps))) s'->R (.ok (.ret res)) s')->codeAny (model X.prog X.w) A (.builtin "dict.update.loop" ⟨[.ref d,.ref it,rawInt i,res],[]⟩) R s:=by
 intro k
 induction k with
 | zero=>
  intro i s H kvs ps hk hi hl hd hz I hit hf hp hR;refine codeAny_builtin F.entry_dict_update_loop ?_
  rw[Around.under_plainId F.plain_dict_update_loop _];obtain⟨z,its,n,r,hlen,e⟩:=I.lstM hl
  have hL:s.heap.IsList l its.toArray:=⟨_,e,rfl,n,rfl⟩
  show wpAny _ A.in1 (pyNext (.ref it) >>= _) _ _ s
  refine wpAny_bind (wpAny_pyNext_list_end hh hit hL (by simp;omega) λh' hm=> ?_)
  show wpAny _ _ (Builtin.Dict.addKeywords d [] >>= _) _ _ _
  refine wpAny_bind (wpAny_pure (wpAny_pure ?_))
  have hnil:xs.drop i= []:=List.drop_eq_nil_of_le (by omega)
  rw[hnil]at hp;unfold PairsAt at hp;subst hp
  have e2:upd H d (.dT (fA kvs []))=H:=by
   funext b
   by_cases hb:b=d
   ·rw[hb,aR,hd];rfl
   ·rw[aG hb]
  rw[e2]at hR
  exact hR _ (I.turnedL (fp:=[it]) (t':=s.toks) (λb hb=>by rw[List.mem_singleton.mp hb];exact hf) λb o hb eb=>hm b o (λz=>hb (by rw[z];exact List.mem_singleton.mpr rfl)) eb)
 | succ k ih=>
  intro i s H kvs ps hk hi hl hd hz I hit hf hp hR;refine codeAny_builtin F.entry_dict_update_loop ?_
  rw[Around.under_plainId F.plain_dict_update_loop _];obtain⟨z,its,n,r,hlen,e⟩:=I.lstM hl
  have hL:s.heap.IsList l its.toArray:=⟨_,e,rfl,n,rfl⟩
  have hlt:i<xs.length:=by omega
  have hlt':i<its.length:=by omega
  show wpAny _ A.in1 (pyNext (.ref it) >>= _) _ _ s
  refine wpAny_bind (wpAny_pyNext_list_item hit hL (x:=its[i]) (by simp[hlt']) λh' hit' hm=> ?_)
  have I1:Inv X pins σ H { s with heap:=h' }:=I.turnedL (fp:=[it]) (t':=s.toks) (λb hb=>by rw[List.mem_singleton.mp hb];exact hf) λb o hb eb=>(hm.2 b (λz=>hb (by rw[z];exact List.mem_singleton.mpr rfl))).trans eb
  have hdrop:xs.drop i=xs[i] ::xs.drop (i+1):=List.drop_eq_getElem_cons hlt;rw[hdrop]at hp;obtain⟨b,kb,p,r',rfl,ex,hb,hkb,hp'⟩:=hp
  have rx:RelV xs[i] its[i]:=by
   obtain⟨u,q1,q2⟩:=r.get (List.getElem?_eq_getElem hlt)
   rw[List.getElem?_eq_getElem hlt']at q1
   cases q1;exact q2
  rw[ex]at rx
  have eu:its[i] =Value.ref b:=rx;rw[eu];obtain⟨z2,its2,r2,ob,hob1,hob2,nb,hob3⟩:=(show ObjOk X.prog X.w H h' b (.tup [.ref kb,p.2])from I1.hok b _ hb)
  obtain⟨u1,us1,q1,rfl⟩:∃u1 us1,RelV (V.ref kb) u1/\its2=u1::us1:=by cases r2 with | cons a b=>exact⟨_,_,a,rfl⟩
  cases r2 with
  | cons ra rb=>
   obtain⟨u2,q2,rfl⟩:∃u2,RelV p.2 u2/\us1= [u2]:=by cases rb with | cons a b=>cases b;exact⟨_,a,rfl⟩
   obtain rfl:u1=Value.ref kb:=q1
   show wpAny _ A.in1 (holding [Value.ref b] _ >>= _) _ _ _
   refine wpAny_bind (wpAny_holding ?_)
   refine wpAny_bind (wpAny_tryCatch ?_)
   unfold Builtin.Dict.pairItems;refine wpAny_bind (wpAny_typeOf (s:={ s with heap:=h' }) (T:="tuple") ⟨ob,hob1,hob2⟩ ?_)
   rw[if_pos (by decide)]
   refine wpAny_bind (wpAny_seqItems (s:={ s with heap:=h' }) hob1 hob3 (wpAny_pure ?_))
   show wpAny _ _ (holding [Value.ref kb,u2] (dictSet d (.ref kb) u2)) _ _ _
   refine wpAny_holding ?_
   obtain⟨zz,hds,xs2,rel,dd⟩:=re I1.hok hd
   have hzl:xs2.length<=sizeLine:=by rw[<-Paired.length rel];exact zz
   have hkl:kvs.length<sizeLine:=by rw[sizeLine_eq];omega
   have hl2:(cK kvs p.1 p.2).length<=sizeLine:=by have:=dq kvs p.1 p.2;omega
   refine wpAny_dictSet_heap (hsz:=hzl) (tupleKind_room_in1 (by show A.units+1<cLine;omega)) (jp I1.hok hkb) dd λh2 dd2 hs2=> ?_
   obtain⟨q,es,ep,hq,h22,h3,h4,_,h5⟩:=dd2
   have I2:Inv X pins σ (upd H d (.dT (cK kvs p.1 p.2))) { s with heap:=h2,toks:=s.toks+(tupleKind (bU X.prog X.w)).draws p.1 }:=
    kl (s:={ s with heap:=h' }) I1 (by rw[hd];exact True.intro) hs2 ⟨q,hq⟩ ⟨hl2,hds,_,(rel.put p.1 hkb q2).keeps λc ys ec=>by rw[aG (kZ ec hd (λz=>nomatch z))];exact ec,q,es,ep,hq,h22,h3,h4,h5⟩
   have hld:l≠d:=kZ hl hd (λz=>nomatch z)
   have hitd:it≠d:=λz=>by have:=hf.1;rw[z,hd]at this;cases this
   have hcast:(i:Int)+1=((i+1:Nat):Int):=by omega
   refine wpAny_pure ⟨plainId_quiet F.plain_dict_update_loop _,?_⟩
   rw[hcast];refine ih (i+1) _ (upd H d (.dT (cK kvs p.1 p.2))) (cK kvs p.1 p.2) r' (by omega) (by omega) (by rw[aG hld];exact hl) aR (by have:=dq kvs p.1 p.2;omega) I2 ?_ ⟨by rw[aG hitd];exact hf.1,hf.2⟩ (hp'.upd hd) λs' I'=> ?_
   ·obtain⟨oi,ho1,ho2,ho3⟩:=hit'
    exact⟨oi,(hs2.2 it hitd).trans ho1,ho2,ho3⟩
   ·rw[gQ]at I'
    exact hR s' I'
end
theorem PairsAt.same {H H':Hp}(s:Same H H'):∀{xs:List V} {ps:List (List Key×V)},PairsAt H xs ps->PairsAt H' xs ps
 | [],_,h=>h
 | x::xs,_,⟨b,kb,p,r,e1,e2,e3,e4,e5⟩=>⟨b,kb,p,r,e1,e2,s _ _ e3,s _ _ e4,e5.same s⟩
section
variable {X:Cx}{pins:List (Addr×Obj)}{σ:L2.St}{A:Around}{E:Value->Shared->Prop}{H:Hp}{s:Shared}{l:Addr}{xs:List V}{ps:List (List Key×V)}
theorem vh {Q:Value->Shared->Prop}(hh:A.handled=none)(hu:A.units+8<cLine)(I:Inv X pins σ H s)(hl:H l=some (.lst xs))(hz:xs.length<=1000)(hp:PairsAt H xs ps)
  (h:∀p s',Nw X.K H p->Inv X pins σ (upd H p (.dT (fA [] ps))) s'->Q (.ref p) s'):wpAny (model X.prog X.w) A (call (.type "dict") [.ref l]) Q E s:=by
 have hk:X.K.lookup s.heap.objs.size=none:=by
  cases q:X.K.lookup s.heap.objs.size with
  | none=>rfl
  | some o=>exact absurd (Heap.lt_size (I.kIn _ o q)) (Nat.lt_irrefl _)
 have hn:H s.heap.objs.size=none:=I.hok.fresh (Nat.le_refl _)
 have hlp:l≠s.heap.objs.size:=λz=>by rw[z,hn]at hl;cases hl
 refine callType_codes (Q₁:=λobj s₁=>obj= .ref s.heap.objs.size/\s₁= { s with heap:=s.heap.push { cls:=.type "dict",data:=.dict #[] } }) F.kt_called_dict (F.kt_typeCall_dict_1 _) F.entry_dict_init (kt_code_dict_new _ ⟨rfl,rfl⟩) ?_
 rintro obj s₁ ⟨rfl,rfl⟩
 have I1:Inv X pins σ (upd H s.heap.objs.size (.dT [])) { s with heap:=s.heap.push { cls:=.type "dict",data:=.dict #[] } }:=I.laid (a:=s.heap.objs.size) (o:=.dT []) (t':=s.toks) (λ_ _ q=>Heap.get?_push_of_some _ q) (Nat.le_refl _) (pj s.heap I.big)
 have hT:({ s with heap:=s.heap.push { cls:=.type "dict",data:=.dict #[] } }:Shared).TypeIs (.ref s.heap.objs.size) "dict":=⟨_,Heap.get?_push_size _ rfl,rfl⟩
 have hl1:upd H s.heap.objs.size (.dT []) l=some (.lst xs):=by rw[aG hlp];exact hl
 obtain⟨z,its,n,r,hlen,e⟩:=I1.lstM hl1;refine⟨hT,F.args_dict_init_2 _ _,?_⟩
 unfold Builtin.«dict.__init__»;refine wpAny_bind ?_
 unfold Builtin.Dict.selfAndRest;refine wpAny_bind (wpAny_notOrdered_dict hT ?_)
 show wpAny _ _ (pure (s.heap.objs.size,[Value.ref l])) _ _ _
 refine wpAny_pure ?_
 show wpAny _ _ (Builtin.Dict.updateFrom "dict.__init__" s.heap.objs.size (.ref l) [] .none) _ _ _
 unfold Builtin.Dict.updateFrom;refine wpAny_bind (wpAny_typeOf (T:="list") ⟨_,e,rfl⟩ ?_)
 rw[if_pos (by decide)]
 refine wpAny_bind (k9 e hh λh' tk' kp=> ?_)
 have I2:Inv X pins σ (upd H s.heap.objs.size (.dT [])) { s with heap:=h',toks:=tk' }:=I1.kept (t':=tk') kp
 rw[if_pos (by rfl)]
 refine wpAny_bind (wpAny_rule ?_)
 have eL:({ s with heap:=h',toks:=tk' }:Shared).heap.IsList l its.toArray:=⟨_,kp _ _ e,rfl,n,rfl⟩
 refine wpAny_bind (wpAny_pyIter_list eL ?_)
 have I3:Inv X pins σ (upd H s.heap.objs.size (.dT [])) { s with heap:=h'.push { cls:=.type "list_iterator",data:=.fields #[.ref l,.int 0 0] },toks:=tk' }:=I2.kept (t':=tk') λb u q=>Heap.get?_push_of_some _ q
 have hpl:s.heap.objs.size<h'.objs.size:=Heap.lt_size (kp _ _ (Heap.get?_push_size _ rfl))
 have hni:upd H s.heap.objs.size (.dT []) h'.objs.size=none:=by
  rw[aG (Nat.ne_of_gt hpl)];exact I.hok.fresh (Nat.le_of_lt hpl)
 have hp1:PairsAt (upd H s.heap.objs.size (.dT [])) xs ps:=hp.same (aP hn _);refine wpAny_pure ⟨plainId_quiet F.plain_dict_update_loop _,?_⟩
 refine sk (A:=A.in1) (X:=X) (pins:=pins) (σ:=σ) (l:=l) (xs:=xs) (it:=h'.objs.size) hh (by show A.units+1+3<cLine;omega) xs.length 0 _ (upd H s.heap.objs.size (.dT [])) [] ps (by omega) (Nat.zero_le _) hl1 aR (by simp;omega) I3 ⟨_,Heap.get?_push_size _ rfl,rfl,rfl⟩ (I2.fpOk (Nat.le_refl _) hni) hp1 λs' I'=> ?_
 rw[gQ]at I';exact⟨rfl,h _ _ ⟨hn,hk⟩ I'⟩
end
theorem hu8 {k:Nat}{A:Around}(h:Room k A):A.units+8<cLine:=by have:=h.un;omega
theorem pY {kvs:List (List Key×V)}{k:List Key}{v:V}(h:(kvs.map (·.1)).Nodup):((cK kvs k v).map (·.1)).Nodup:=by
 unfold cK
 by_cases a:(kvs.any λkv=>decide (kv.1=k))=true
 ·rw[if_pos a,List.map_map]
  have:((λx=>x.1)∘λkv:List Key×V=>if kv.1=k then(kv.1,v)else kv)=λx=>x.1:=by
   funext x
   show(if x.1=k then(x.1,v)else x).1=x.1
   by_cases e:x.1=k
   ·rw[if_pos e]
   ·rw[if_neg e]
  rw[this];exact h
 ·rw[if_neg a,List.map_append,List.nodup_append]
  refine⟨h,by simp,λx hx y hy=> ?_⟩
  simp only[List.map_cons,List.map_nil,List.mem_singleton]at hy;subst hy;intro z;subst z;obtain⟨p,hp,e⟩:=List.mem_map.mp hx;exact a (List.any_eq_true.mpr ⟨p,hp,decide_eq_true e⟩)
def B3 (K:PySem.W.Frag)(O:Ow)(H:Hp):List (T×T)->List (List Key×V)->Prop
 | [],ps=>ps= []
 | a::l,ps=> ∃p r,ps=p::r/\keyOf a.1=some p.1/\Rep K O H a.2 p.2/\B3 K O H l r
theorem jr {K:PySem.W.Frag}{O:Ow}{H:Hp}:∀{l:List (T×T)} {ps:List (List Key×V)} {ks ts:List T} {kvs:List (List Key×V)},B3 K O H l ps->ks.map keyOf=kvs.map (λp=>some p.1)->Reps K O H ts (kvs.map (·.2))->(kvs.map (·.1)).Nodup →
  (fx l (ks,ts)).1.map keyOf=(fA kvs ps).map (λp=>some p.1)/\Reps K O H (fx l (ks,ts)).2 ((fA kvs ps).map (·.2))
 | [],ps,ks,ts,kvs,h,h1,h2,hn=>by unfold B3 at h;subst h;exact⟨h1,h2⟩
 | (a,b)::l,ps,ks,ts,kvs,h,h1,h2,hn=>by
  obtain⟨p,r,rfl,e1,e2,e3⟩:=h;obtain⟨g1,g2⟩:=lj (vT:=b) e1 e2 h1 h2 hn
  show(fx l (ga a b ks ts)).1.map keyOf=(fA (cK kvs p.1 p.2) r).map (λp=>some p.1)/\Reps K O H (fx l (ga a b ks ts)).2 ((fA (cK kvs p.1 p.2) r).map (·.2))
  exact jr (l:=l) e3 g1 g2 (pY hn)
theorem qA {K:PySem.W.Frag}{O:Ow}{H:Hp}:∀{l:List T} {tps:List (T×T)} {xs:List V},As l=some tps->Reps K O H l xs->∃ps,PairsAt H xs ps/\B3 K O H tps ps
 | [],tps,xs,h,r=>by cases Reps.nil_iff.mp r;cases h;exact⟨[],rfl,rfl⟩
 | t::l,tps,xs,h,r=>by
  obtain⟨v,ws,rfl,p,q⟩:=Reps.cons_iff.mp r;unfold As at h
  split at h
  ·rename_i heq;cases heq
  ·rename_i k v' l' heq
   cases heq
   split at h
   ·rename_i kk rr hk hr
    cases h;obtain⟨ps,g1,g2⟩:=qA hr q;obtain⟨b,vs,e1,e2,e3,e4⟩:=Rep.tup_iff.mp p;obtain⟨u1,us1,rfl,f1,f2⟩:=Reps.cons_iff.mp e4;obtain⟨u2,us2,rfl,f3,f4⟩:=Reps.cons_iff.mp f2;cases Reps.nil_iff.mp f4;obtain⟨kb,f5,f6⟩:=i7 hk f1;subst f5;exact⟨(kk,u2)::ps,⟨b,kb,(kk,u2),ps,rfl,e1,e3,f6,g1⟩,⟨(kk,u2),ps,rfl,hk,f3,g2⟩⟩
   ·cases h
  ·cases h
section
variable {X:Cx}{e:Expr}{f:En->Rs T}{x y:Str}{p pos p2 p3:Pos}
def yx (X:Cx)(f:En->Rs T):TE:=λσ H Q=>tP X f σ H λv H'=> ∃a xs ps,v= .ref a/\H' a=some (.lst xs)/\xs.length<=1000/\PairsAt H' xs ps/\∀q,Nw X.K H' q->Q (.ref q) (upd H' q (.dT (fA [] ps)))
theorem tY (hu:X.A.units+8<cLine)(hc:X.calm=true)(hm:X.mg "dict" =none)(ha:cg X e f)(hg:Gl X "dict")(hs:bS e=true):PE X (.Call (.Name "dict" p) [e] [] pos) (yx X f):=by
 have h1:starEach [e] X.env=(false,eval e X.env)::starEach [] X.env:=bh hs;intro pins s σ H Q I hq;refine wpAny_Call_Name_kw (fq I hg hm (show bootBuiltins "dict" =some (.type "dict")by decide+kernel) ?_ (by decide) (by decide))
 refine PyProof.Rows.callWith_type1 (cf (gV (te:=tP X f) ha kJ h1 pos pins s σ H (λxs H'=> ∃v,xs= [v]/\∃a xs ps,v= .ref a/\H' a=some (.lst xs)/\xs.length<=1000/\PairsAt H' xs ps/\∀q,Nw X.K H' q->Q (.ref q) (upd H' q (.dT (fA [] ps)))) I ?_) λus s1 hh=> ?_) h1 rfl
 ·obtain⟨Z,O,E,h⟩:=hq
  exact⟨Z,O,E,Post.mono h λt H' _ g v r=>⟨v,rfl,g v r⟩⟩
 ·obtain⟨vs,H1,I1,r1,v,rfl,a,xs,ps,ev,e1,e2,e3,e4⟩:=hh
  subst ev;obtain⟨u,rfl,ru⟩:=r1.one;obtain rfl:u=Value.ref a:=ru;exact vh (I1.ok.hd hc) hu I1 e1 e2 e3 λq s' nw I'=>⟨.ref q,_,I',rfl,e4 q nw⟩
theorem wl (i:Nat)(hu:X.A.units+8<cLine)(hc:X.calm=true)(hm:X.mg "dict" =none)(hN:X.N.Nodup)(ha:cg X e f)(hst:bS e=true:=by rfl)(hg:Gl X "dict":=by rfl)(hi:X.N[i]? =some x:=by rfl)(hx:Loc X.env.scope x:=by first | exact Or.inl rfl | exact Or.inr rfl)(hs:swapsWith (.Call (.Name "dict" p) [e] [] p2) (some (.Name x p3)) pos.line X.env=pure false:=by rfl)
  (hf:X.fn x=true\/X.env.scope.names.lookup x=some .local:=by first | exact .inl rfl | exact .inr rfl | assumption):nN X (.Assign [.Name x p3] (.Call (.Name "dict" p) [e] [] p2) pos) (lV i f):=PS.imp (tO hN hi hx (tY hu hc hm ha hg hst) hs hf) λD σ H hh_=>by
 obtain⟨Z,B,M,E,h⟩:=hh_;refine⟨Z,OO B M,E.o,?_⟩
 unfold lV at h
 cases q:f Z with
 | bad=>rw[q]at h;exact h.elim
 | err c=>rw[q]at h;exact PostF.xa h
 | ok t=>
  rw[q,aC]at h;intro H1 s1 v r
  have h1:=h.later (SameO.of s1) (P1:=M.u) λa z=> .inl z
  cases t with
  | lst l=>
   obtain⟨a,xs,rfl,e2,e3,e4⟩:=Rep.lst_iff.mp r;unfold rh at h1
   split at h1
   ·rename_i l' heq
    cases heq
    split at h1
    ·rename_i tps hps
     by_cases hz:l.length<=1000
     ·rw[if_pos hz,aC]at h1
      obtain⟨ps,g1,g2⟩:=qA hps e4;refine⟨a,xs,ps,rfl,e3,by rw[<-e4.length];exact hz,g1,λnd nw=> ?_⟩
      by_cases hl:i<Z.length
      ·simp only[if_pos hl]at h1
       have hm:∀a,a=nd->Nw X.K H1 a:=λa z=>z▸nw
       obtain⟨k1,k2⟩:=jr (ks:=[]) (ts:=[]) (kvs:=[]) g2 rfl Reps.nil_ List.nodup_nil;obtain⟨E2,sub⟩:=(E.same s1).new (m:=λa=>a=nd) (o:=.dct (fx tps ([],[])).1 (fx tps ([],[])).2) (v:=.ref nd) (H':=upd H1 nd (.dT (fA [] ps))) hl hm (aP nw.1 _) ⟨nd,_,rfl,λb=>Iff.rfl,aR,k1,(k2.more (Ev.subO hm)).same (aP nw.1 _)⟩
       exact h1 _ _ _ (SameO.of (aP nw.1 _)) E2 sub
      ·simp only[if_neg hl]at h1;exact h1.elim
     ·rw[if_neg hz]at h1;exact h1.elim
    ·exact h1.elim
   ·rename_i hno
    exact(hno l rfl).elim
  | _=>exact h1.elim
end
theorem iw {K:PySem.W.Frag}{O:Ow}{H:Hp}:∀{l:List T} {ns:List Int} {xs:List V} {us:List Value},ig l=some ns->Reps K O H l xs->Vals xs us->IntsAre us ns
 | [],ns,xs,us,h,r,v=>by cases Reps.nil_iff.mp r;cases v;cases h;exact .nil
 | t::l,ns,xs,us,h,r,v=>by
  obtain⟨w,ws,rfl,p,q⟩:=Reps.cons_iff.mp r
  cases v with
  | cons v1 v2=>
   cases t with
   | int i=>
    unfold ig at h;obtain⟨m,h1,rfl⟩:=Option.map_eq_some_iff.mp h;cases Rep.int_iff.mp p;obtain⟨k,rfl⟩:=v1
    exact .cons _ _ (iw h1 q v2)
   | _=>cases h
theorem l5:∀(l:List Int) (i:Int),p6 i l∈i::l/\∀a∈i::l,p6 i l<=a
 | [],i=>⟨List.mem_cons_self,λa h=>by cases List.mem_singleton.mp h;exact Int.le_refl _⟩
 | j::l,i=>by
  obtain⟨h1,h2⟩:=l5 l (if j<i then j else i)
  unfold p6
  have h3:=h2 _ List.mem_cons_self;refine⟨?_,λa ha=> ?_⟩
  ·rcases List.mem_cons.mp h1 with e | e
   ·rw[e]
    by_cases h:j<i
    ·rw[if_pos h];simp
    ·rw[if_neg h];simp
   ·exact List.mem_cons_of_mem _ (List.mem_cons_of_mem _ e)
  ·rcases List.mem_cons.mp ha with rfl | ha
   ·by_cases h:j<a
    ·rw[if_pos h]at h3 ⊢;omega
    ·rw[if_neg h]at h3 ⊢;omega
   ·rcases List.mem_cons.mp ha with rfl | ha
    ·by_cases h:a<i
     ·rw[if_pos h]at h3 ⊢;omega
     ·rw[if_neg h]at h3 ⊢;omega
    ·exact h2 a (List.mem_cons_of_mem _ ha)
section
variable {X:Cx}
theorem Ah (hc:X.calm=true):CallT X (.builtin "sum") yz:=by
 intro pins s σ H O ts vs us Q I hf rs rv hp;unfold yz at hp
 split at hp
 ·rename_i l
  obtain⟨v,rfl,r⟩:=rs.one
  split at hp
  ·rename_i ns hk
   obtain⟨a,ws,rfl,n,q,z⟩:=Rep.lst_iff.mp r;obtain⟨u,rfl,ru⟩:=iH rv;cases ru;obtain⟨its,r',pl,hz⟩:=I.list (SqL.of q)
   have hi:=iw hk z r';obtain⟨xs,e⟩:=hi.allInts.items
   have hns:ns=xs.toList.map (·.1):=by rw[<-hi.numsOf,<-nums_intItems,<-e]
   have hl:s.heap.IsList a (intItems xs):=by rw[<-e];exact pl.isList
   refine sum_intListG (I.ok.hd hc) hl λh' tk t' hk'=>⟨.int _,H,I.kept (t':=tk) hk',⟨_,rfl⟩,?_⟩
   have:preSum (numAt xs) xs.size=ns.sum:=by rw[hns,preSum_eq,List.take_of_length_le (by simp)]
   rw[this];exact hp H (Same.refl H) _ (Rep.int_ _)
  ·exact hp.elim
 ·exact hp.elim
theorem Ai (hc:X.calm=true):CallT X (.builtin "min") ut:=by
 intro pins s σ H O ts vs us Q I hf rs rv hp;unfold ut at hp
 split at hp
 ·rename_i l
  obtain⟨v,rfl,r⟩:=rs.one
  split at hp
  ·rename_i i ns hk
   obtain⟨a,ws,rfl,n,q,z⟩:=Rep.lst_iff.mp r;obtain⟨u,rfl,ru⟩:=iH rv;cases ru;obtain⟨its,r',pl,hz⟩:=I.list (SqL.of q)
   have hi:=iw hk z r';obtain⟨xs,e⟩:=hi.allInts.items
   have hns:i::ns=xs.toList.map (·.1):=by rw[<-hi.numsOf,<-nums_intItems,<-e]
   have hl:s.heap.IsList a (intItems xs):=by rw[<-e];exact pl.isList
   have hsz:0<xs.size:=by
    have h3:=congrArg List.length hns;rw[List.length_cons,List.length_map]at h3;rw[<-Array.length_toList];omega
   refine min_intList (I.ok.hd hc) hl hsz λv h' tk hv hk'=> ?_
   obtain⟨t,rfl⟩:=intItems_at hv;obtain⟨h1,h2⟩:=argBest_lt (numAt xs) (xs.size - 1);refine⟨.int _,H,I.kept (t':=tk) hk',⟨_,rfl⟩,?_⟩
   have eM:numAt xs (argBest (λi j=>decide (numAt xs i<numAt xs j)) (xs.size - 1))=p6 i ns:=by
    obtain⟨g1,g2⟩:=l5 ns i
    have m1:numAt xs (argBest (λi j=>decide (numAt xs i<numAt xs j)) (xs.size - 1))∈i::ns:=by
     rw[hns,numAt_eq];exact PySem.getD_mem (by rw[List.length_map,Array.length_toList];omega)
    have k1:=g2 _ m1;rw[hns]at g1;obtain⟨j,hj,ej⟩:=mem_getD g1;rw[List.length_map,Array.length_toList]at hj;rw[<-numAt_eq]at ej
    have k2:=h2 j (by omega)
    rw[ej]at k2;exact Int.le_antisymm k2 k1
   rw[eM];exact hp H (Same.refl H) _ (Rep.int_ _)
  ·exact hp.elim
 ·rename_i i j
  obtain⟨v,ws,rfl,p,q⟩:=Reps.cons_iff.mp rs;obtain⟨v2,rfl,p2⟩:=q.one;cases Rep.int_iff.mp p;cases Rep.int_iff.mp p2;refine sC hc pins s σ H _ us Q I rv ⟨i,j,rfl,?_⟩
  exact hp H (Same.refl H) _ (Rep.int_ _)
 ·exact hp.elim
end
def sH (κ:KeyKind)(k0:SortKind)(prog:Program)(w:World)(A:Around)(s:Shared):Prop:=
 ∀(E:Value->Shared->Prop) (x y:Value) (a b:κ.α) (Q:Bool->Shared->Prop),κ.keyOf x=some a->κ.keyOf y=some b->Q (κ.blt a b) s->wpAny (model prog w) A (keyLt' k0 x y) Q E s
section
variable {X:Cx}
theorem gW:∀{m:List T} {ns:List Int},ig m=some ns->m=ns.map .int
 | [],ns,h=>by cases h;rfl
 | t::m,ns,h=>by
  cases t with
  | int i=>
   unfold ig at h;obtain⟨k,h1,rfl⟩:=Option.map_eq_some_iff.mp h
   rw[gW h1];rfl
  | _=>cases h
end
end Tr
namespace Tr
def BY:List T->Rs T
 | [.lst l,.tup m] =>if jK l=true/\l.length=m.length/\1<=l.length/\l.length<=1000 then .ok (.dct (fx (l.zip m) ([],[])).1 (fx (l.zip m) ([],[])).2)else .bad
 | _=> .bad
end Tr
namespace PySem
open Sem (wp)
namespace F
theorem zk_keys:typeLookup (.type "zip") "keys" =pure none:=by rw[typeLookup_type,builtinLookup_eq_fast];kernel_rfl
theorem zk_ga:typeLookup (.type "zip") "__getattr__" =pure none:=by rw[typeLookup_type,builtinLookup_eq_fast];kernel_rfl
theorem zk_entry:entryFor table "zip.__getattribute__" =some Builtin.«object.__getattribute__»:=
 entryFor_alias (id':="object.__getattribute__") (by kernel_rfl) (by first | rfl | decide+kernel | (unfold String.splitOn;simp+decide [String.splitOnAux])) (by decide+kernel) (by kernel_rfl)
end F
abbrev zO (h:Heap)(z ti to:Addr)(f0 f1:Value):Prop:=h.get? z=some { cls:=.type "zip",dict:=none,data:=.fields #[f0,f1,.bool false,.ref ti,.ref to],slots:=#[] }
section
variable {prog:Program}{w:World}{A:Around}{E:Value->Shared->Prop}{h:Heap}{g:Array GenState}{d:Drawn}{t:Nat}{os:OsState}{z ti to:Addr}{f0 f1:Value}
theorem zk1 {tk:Tok}{Q:Fin->Shared->Prop}(hx:zO h z ti to f0 f1)(hh:A.handled=none)(hq:∀h' tk' e,Heap.NewAttrErr h h' e (.ref z) "keys"->E (.ref e) ⟨h',g,d,tk',os⟩) :
  wpAny (model prog w) A (Builtin.«object.__getattribute__» ⟨[.ref z,.str "keys" tk],[]⟩) Q E ⟨h,g,d,t,os⟩:=by
 have hT:(⟨h,g,d,t,os⟩:Shared).TypeIs (.ref z) "zip":=⟨_,hx,rfl⟩
 have f4:=F.zk_keys
 repeat (any_goals (first | assumption | wp_step))
 exact wpAny_raiseAttrError hh (λh' tk e hx=>hq h' tk e hx) (attrMsg_fits (by decide+kernel) (by rw[sizeLine_eq];decide))
theorem zk2 {tk:Tok}{R:Result->Shared->Prop}(hx:zO h z ti to f0 f1)(hh:A.handled=none)(hq:∀h' tk' e,Heap.NewAttrErr h h' e (.ref z) "keys"->R (.error (.ref e)) ⟨h',g,d,tk',os⟩) :
  codeAny (model prog w) A (.call (.builtin "zip.__getattribute__") ⟨[.ref z,.str "keys" tk],[]⟩) R ⟨h,g,d,t,os⟩:=
 codeAny_call_builtin F.slot_zip_getattribute.plain F.zk_entry (F.slot_zip_getattribute.check _ _ _ _ _ _ _ _ (show(⟨h,g,d,t,os⟩:Shared).TypeIs (.ref z) "zip" from⟨_,hx,rfl⟩) (F.args_zip_getattribute_2 _ _) (zk1 hx hh hq))
theorem zk3 {Q:Option Value->Shared->Prop}(hx:zO h z ti to f0 f1)(hh:A.handled=none)(hq:∀h' tk',(∀b o,h.get? b=some o->h'.get? b=some o)->Q none ⟨h',g,d,tk',os⟩):wpAny (model prog w) A (getAttr? (.ref z) "keys") Q E ⟨h,g,d,t,os⟩:=by
 have hT:∀tk,(⟨h,g,d,tk,os⟩:Shared).TypeIs (.ref z) "zip":=λ_=>⟨_,hx,rfl⟩
 have f1:=sub_AttributeError
 have f2:=F.slot_zip_getattribute.lookup
 have f3:=F.slot_zip_getattribute.bind (.ref z)
 have f5:=F.zk_ga;unfold getAttr? getAttrBy? getAttrBy
 repeat (any_goals (first | assumption | exact hT _ | wp_step))
 refine zk2 hx hh λh' tk' e hx'=> ?_
 obtain⟨t',u',he⟩:=hx'.there
 repeat (any_goals (first | assumption | exact hT _ | wp_step))
 exact hq _ _ hx'.keeps
end
structure Zp (h:Heap)(n l1 t2 k:Nat)(xs ys:Array Value):Prop where
 b1:l1<n
 b2:t2<n
 pr:IsPair h (n+2) (.ref n) (.ref (n+1))
 i1:h.IsListIter n l1 k
 i2:h.IsTupleIter (n+1) t2 k
 s1:h.IsList l1 xs
 s2:h.IsTuple t2 ys
theorem fX {h h':Heap}{a:Addr}{xs:Array Value}(x:h.IsTuple a xs)(e:∀o,h.get? a=some o->h'.get? a=some o):h'.IsTuple a xs:=let ⟨o,ho,r⟩:=x;⟨o,e _ ho,r⟩
theorem Zp.keep {h h':Heap}{n l1 t2 k:Nat}{xs ys:Array Value}(q:Zp h n l1 t2 k xs ys)(e:∀c o,c<n+3->h.get? c=some o->h'.get? c=some o):Zp h' n l1 t2 k xs ys where
 b1:=q.b1
 b2:=q.b2
 pr:=e _ _ (by omega) q.pr
 i1:=q.i1.at λo=>e _ o (by omega)
 i2:=q.i2.at λo=>e _ o (by omega)
 s1:=q.s1.at λo=>e _ o (by have:=q.b1;omega)
 s2:=fX q.s2 λo=>e _ o (by have:=q.b2;omega)
section
variable {prog:Program}{w:World}{A:Around}{E:Value->Shared->Prop}{s:Shared}{n l1 t2 k:Nat}{xs ys:Array Value}{x y:Value}
theorem n4 {a:Addr}{Q:Option Obj->Shared->Prop}(q:Q (s.heap.get? a) s):wpAny (model prog w) A (loadIfAlive a) Q E s:=λΓ p _=>by
 show Sem.wp _ _ (Sem.loadIfAlive a pure) _ _ _ _
 rw[Sem.wp_loadIfAlive];exact q
end
section
variable {prog:Program}{w:World}{A:Around}{E:Value->Shared->Prop}{s:Shared}{n l1 t2 k:Nat}{xs ys:Array Value}{x y:Value}
theorem dJ {a b:Nat}(h:a<b\/b<a):a≠b:=by omega
theorem Zp.one {h h':Heap}(q:Zp h n l1 t2 k xs ys)(i:h'.IsListIter n l1 (k+1))(e:Heap.SameBut n h h'):h'.IsTupleIter (n+1) t2 k/\h'.IsList l1 xs/\h'.IsTuple t2 ys/\IsPair h' (n+2) (.ref n) (.ref (n+1)):=by
 have b1:=q.b1
 have b2:=q.b2;exact⟨q.i2.at λo g=>e.extBut _ _ (dJ (by omega)) g,q.s1.at λo g=>e.extBut _ _ (dJ (by omega)) g,fX q.s2 λo g=>e.extBut _ _ (dJ (by omega)) g,e.extBut _ _ (dJ (by omega)) q.pr⟩
theorem nY {T:Addr}{ob:Obj}{f:Bool}{Q:Bool->Shared->Prop}(kz:zO s.heap (n+4) (n+2) (n+3) (rawInt T) (.bool f))(kT:s.heap.get? T=some ob)
  (hk:∀h',zO h' (n+4) (n+2) (n+3) (rawInt T) (.bool true)->(∀c o,c≠n+4->s.heap.get? c=some o->h'.get? c=some o)->h'.objs.size=s.heap.objs.size->Q false { s with heap:=h' }):wpAny (model prog w) A (Builtin.SmallTypes.ownedTupleIsFree (.ref (n+4))) Q E s:=by
 unfold Builtin.SmallTypes.ownedTupleIsFree;refine wpAny_bind (wpAny_field kz rfl (x:=rawInt T) rfl ?_)
 show wpAny _ _ (loadIfAlive (Int.toNat (T:Int)) >>= _) _ _ _
 rw[Int.toNat_natCast];refine wpAny_bind (n4 ?_)
 rw[kT]
 show wpAny _ _ (field (.ref (n+4)) 1 >>= _) _ _ _
 refine wpAny_bind (wpAny_field kz rfl (x:=.bool f) rfl ?_)
 cases f with
 | true=>
  rw[if_neg (by decide)]
  exact wpAny_pure (hk _ kz (λ_ _ _ e=>e) rfl)
 | false=>
  rw[if_pos (by decide)]
  refine wpAny_bind (wpAny_setField_rec kz (by simp) λh₁ kz₁ hs₁=>wpAny_pure (hk h₁ kz₁ (λc o c1 e=>hs₁.extBut _ _ c1 e) hs₁.1))
theorem sS {T:Addr}{ob:Obj}{f:Bool}{Q:Value->Shared->Prop}(q:Zp s.heap n l1 t2 k xs ys)(kz:zO s.heap (n+4) (n+2) (n+3) (rawInt T) (.bool f))(kT:s.heap.get? T=some ob)(hx:xs[k]? =some x)(hy:ys[k]? =some y)
  (kq:∀h' p,s.heap.objs.size<=p->IsPair h' p x y->zO h' (n+4) (n+2) (n+3) (rawInt T) (.bool true)->Zp h' n l1 t2 (k+1) xs ys->(∀c o,c≠n->c≠n+1->c≠n+4->s.heap.get? c=some o->h'.get? c=some o)->Q (.ref p) { s with heap:=h' }) :
  wpAny (model prog w) A (Builtin.«zip.__next__» ⟨[.ref (n+4)],[]⟩) (λfin s'=> ∃v,fin= .done (.ret v)/\Q v s') E s:=by
 have b1:=q.b1
 have b2:=q.b2
 show wpAny _ _ (field (.ref (n+4)) 2 >>= _) _ _ _
 refine wpAny_bind (wpAny_field kz rfl (x:=.bool false) rfl ?_)
 show wpAny _ _ (field (.ref (n+4)) 3 >>= _) _ _ _
 refine wpAny_bind (wpAny_field kz rfl (x:=.ref (n+2)) rfl ?_)
 refine wpAny_bind (wpAny_seqItems q.pr rfl ?_)
 show wpAny _ _ (Builtin.SmallTypes.ownedTupleIsFree (.ref (n+4)) >>= _) _ _ _
 refine wpAny_bind (nY kz kT λh₁ kz₁ e₁ z₁=> ?_)
 have q₁:Zp h₁ n l1 t2 k xs ys:=q.keep λc o hc g=>e₁ c o (by omega) g
 simp only[Bool.false_eq_true,if_false,List.forIn_toArray,List.forIn_cons,List.forIn_nil];refine wpAny_bind (wpAny_bind (wpAny_bind (wpAny_holding ?_)))
 show wpAny _ _ (Builtin.SmallTypes.nextOf (.ref n) >>= _) _ _ _
 refine wpAny_bind (wpAny_nextOf_list_item q₁.i1 q₁.s1 hx λh₂ g₂ e₂=>wpAny_pure ?_)
 obtain⟨r1,r2,r3,r4⟩:=q₁.one g₂ e₂;refine wpAny_pure (wpAny_bind (wpAny_bind (wpAny_holding ?_)))
 show wpAny _ _ (Builtin.SmallTypes.nextOf (.ref (n+1)) >>= _) _ _ _
 refine wpAny_bind (Enu.tupNext r1 r3 hy λh₃ g₃ e₃=>wpAny_pure (wpAny_pure (wpAny_pure ?_)))
 show wpAny _ _ (newTuple [x,y] >>= _) _ _ _
 refine wpAny_bind (wpAny_newTuple (wpAny_pure ⟨_,rfl,?_⟩))
 have z₃:h₃.objs.size=s.heap.objs.size:=by rw[e₃.1,e₂.1,z₁]
 have up:∀c o,c≠n->c≠n+1->h₁.get? c=some o->(h₃.push { cls:=.type "tuple",data:=.seq #[x,y] }).get? c=some o:=λc o c1 c2 g=>Heap.get?_push_of_some _ (e₃.extBut _ _ c2 (e₂.extBut _ _ c1 g))
 refine kq _ h₃.objs.size (Nat.le_of_eq z₃.symm) (Heap.get?_push_size _ rfl) (up _ _ (dJ (by omega)) (dJ (by omega)) kz₁) ⟨b1,b2,up _ _ (dJ (by omega)) (dJ (by omega)) q₁.pr,?_,?_,?_,?_⟩ λc o c1 c2 c4 g=>up c o c1 c2 (e₁ c o c4 g)
 ·exact g₂.at λo g=>Heap.get?_push_of_some _ (e₃.extBut _ _ (dJ (by omega)) g)
 ·exact g₃.at λo g=>Heap.get?_push_of_some _ g
 ·exact q₁.s1.at λo g=>up _ o (dJ (by omega)) (dJ (by omega)) g
 ·exact fX q₁.s2 λo g=>up _ o (dJ (by omega)) (dJ (by omega)) g
theorem rE {a b:Value}{Q:Value->Shared->Prop}(q:Zp s.heap n l1 t2 k xs ys)(kz:zO s.heap (n+4) (n+2) (n+3) .none (.bool false))(ho:IsPair s.heap (n+3) a b)(hx:xs[k]? =some x)(hy:ys[k]? =some y)
  (kq:∀h' p,s.heap.objs.size<=p->IsPair h' p x y->zO h' (n+4) (n+2) (n+3) (rawInt p) (.bool false)->Zp h' n l1 t2 (k+1) xs ys->(∀c o,c≠n->c≠n+1->c≠n+3->c≠n+4->s.heap.get? c=some o->h'.get? c=some o)->Q (.ref p) { s with heap:=h' }) :
  wpAny (model prog w) A (Builtin.«zip.__next__» ⟨[.ref (n+4)],[]⟩) (λfin s'=> ∃v,fin= .done (.ret v)/\Q v s') E s:=by
 have b1:=q.b1
 have b2:=q.b2
 show wpAny _ _ (field (.ref (n+4)) 2 >>= _) _ _ _
 refine wpAny_bind (wpAny_field kz rfl (x:=.bool false) rfl ?_)
 show wpAny _ _ (field (.ref (n+4)) 3 >>= _) _ _ _
 refine wpAny_bind (wpAny_field kz rfl (x:=.ref (n+2)) rfl ?_)
 refine wpAny_bind (wpAny_seqItems q.pr rfl ?_)
 show wpAny _ _ (Builtin.SmallTypes.ownedTupleIsFree (.ref (n+4)) >>= _) _ _ _
 have fr:wpAny (model prog w) A (Builtin.SmallTypes.ownedTupleIsFree (.ref (n+4))) (λv s'=>v=true/\s'=s) E s:=by
  unfold Builtin.SmallTypes.ownedTupleIsFree;exact wpAny_bind (wpAny_field kz rfl (x:=.none) rfl (wpAny_pure ⟨rfl,rfl⟩))
 refine wpAny_bind (wpAny_mono fr (λv s' hv=> ?_) λ_ _ z=>z)
 obtain⟨rfl,rfl⟩:=hv;simp only[if_true];refine wpAny_bind (wpAny_rule (wpAny_bind (wpAny_field kz rfl (x:=.ref (n+3)) rfl (wpAny_bind (wpAny_setField_rec kz (by simp) λh₁ kz₁ e₁=> ?_)))))
 replace kz₁:zO h₁ (n+4) (n+2) (n+3) .ellipsis (.bool false):=kz₁
 have q₁:Zp h₁ n l1 t2 k xs ys:=q.keep λc o hc g=>e₁.extBut c o (dJ (by omega)) g
 simp only[List.zipIdx_cons,List.zipIdx_nil,List.forIn_cons,List.forIn_nil];refine wpAny_bind (wpAny_bind (wpAny_bind (wpAny_onRaise ?_)))
 show wpAny _ _ (Builtin.SmallTypes.nextOf (.ref n) >>= _) _ _ _
 refine wpAny_bind (wpAny_nextOf_list_item q₁.i1 q₁.s1 hx λh₂ g₂ e₂=>wpAny_pure ?_)
 obtain⟨r1,r2,r3,r4⟩:=q₁.one g₂ e₂
 have o₂:IsPair h₂ (n+3) a b:=e₂.extBut _ _ (dJ (by omega)) (e₁.extBut _ _ (dJ (by omega)) ho)
 refine wpAny_bind (wpAny_seqItems o₂ rfl (wpAny_bind (wpAny_updateSeq_pair o₂ λh₃ o₃ e₃=>wpAny_bind (wpAny_letGo (wpAny_pure ?_)))))
 replace o₃:IsPair h₃ (n+3) x b:=o₃
 refine wpAny_bind (wpAny_bind (wpAny_onRaise ?_))
 show wpAny _ _ (Builtin.SmallTypes.nextOf (.ref (n+1)) >>= _) _ _ _
 refine wpAny_bind (Enu.tupNext (r1.at λo g=>e₃.extBut _ _ (dJ (by omega)) g) (fX r3 λo g=>e₃.extBut _ _ (dJ (by omega)) g) hy λh₄ g₄ e₄=>wpAny_pure ?_)
 have o₄:IsPair h₄ (n+3) x b:=e₄.extBut _ _ (dJ (by omega)) o₃
 refine wpAny_bind (wpAny_seqItems o₄ rfl (wpAny_bind (wpAny_updateSeq_pair o₄ λh₅ o₅ e₅=>wpAny_bind (wpAny_letGo (wpAny_pure (wpAny_pure ?_))))))
 replace o₅:IsPair h₅ (n+3) x y:=o₅
 refine wpAny_bind (wpAny_seqItems o₅ rfl (wpAny_bind (wpAny_newTuple ?_)))
 have z₅:h₅.objs.size=s'.heap.objs.size:=by rw[e₅.1,e₄.1,e₃.1,e₂.1,e₁.1]
 have up:∀c o,c≠n->c≠n+1->c≠n+3->h₁.get? c=some o->h₅.get? c=some o:=λc o c1 c2 c3 g=>e₅.extBut _ _ c3 (e₄.extBut _ _ c2 (e₃.extBut _ _ c3 (e₂.extBut _ _ c1 g)))
 show wpAny _ _ (Builtin.SmallTypes.ownedTupleHandOut (.ref (n+4)) (.ref h₅.objs.size) >>= _) _ _ _
 have z5:zO (h₅.push { cls:=.type "tuple",data:=.seq #[x,y] }) (n+4) (n+2) (n+3) .ellipsis (.bool false):=Heap.get?_push_of_some _ (up _ _ (dJ (by omega)) (dJ (by omega)) (dJ (by omega)) kz₁)
 have hn:n+4<h₅.objs.size:=Heap.lt_size (up _ _ (dJ (by omega)) (dJ (by omega)) (dJ (by omega)) kz₁)
 refine wpAny_bind ?_
 unfold Builtin.SmallTypes.ownedTupleHandOut;refine wpAny_bind (wpAny_setField_rec z5 (by simp) λh₇ z₇ e₇=> ?_)
 replace z₇:zO h₇ (n+4) (n+2) (n+3) (rawInt h₅.objs.size) (.bool false):=z₇
 refine wpAny_setField_rec z₇ (by simp) λh₈ z₈ e₈=>wpAny_pure ⟨_,rfl,?_⟩
 replace z₈:zO h₈ (n+4) (n+2) (n+3) (rawInt h₅.objs.size) (.bool false):=z₈
 have up8:∀c o,c≠n+4->h₅.get? c=some o->h₈.get? c=some o:=λc o c1 g=>e₈.extBut _ _ c1 (e₇.extBut _ _ c1 (Heap.get?_push_of_some _ g))
 refine kq h₈ h₅.objs.size (Nat.le_of_eq z₅.symm) (e₈.extBut _ _ (dJ (by omega)) (e₇.extBut _ _ (dJ (by omega)) (Heap.get?_push_size _ rfl))) z₈ ⟨b1,b2,up8 _ _ (dJ (by omega)) (up _ _ (dJ (by omega)) (dJ (by omega)) (dJ (by omega)) q₁.pr),?_,?_,?_,?_⟩ λc o c1 c2 c3 c4 g=>up8 c o c4 (up c o c1 c2 c3 (e₁.extBut _ _ c4 g))
 ·exact g₂.at λo g=>up8 _ _ (dJ (by omega)) (e₅.extBut _ _ (dJ (by omega)) (e₄.extBut _ _ (dJ (by omega)) (e₃.extBut _ _ (dJ (by omega)) g)))
 ·exact g₄.at λo g=>up8 _ _ (dJ (by omega)) (e₅.extBut _ _ (dJ (by omega)) g)
 ·exact q₁.s1.at λo g=>up8 _ _ (dJ (by omega)) (up _ o (dJ (by omega)) (dJ (by omega)) (dJ (by omega)) g)
 ·exact fX q₁.s2 λo g=>up8 _ _ (dJ (by omega)) (up _ o (dJ (by omega)) (dJ (by omega)) (dJ (by omega)) g)
theorem sR {T:Addr}{ob:Obj}{f:Bool}{Q:Fin->Shared->Prop}(hh:A.handled=none)(q:Zp s.heap n l1 t2 k xs ys)(kz:zO s.heap (n+4) (n+2) (n+3) (rawInt T) (.bool f))(kT:s.heap.get? T=some ob)(hx:xs[k]? =none)
  (ke:∀h' e,(∀c o,c≠n->c≠n+4->s.heap.get? c=some o->h'.get? c=some o)->(∃o,h'.get? e=some o/\o.cls= .type "StopIteration")->E (.ref e) { s with heap:=h' }) :
  wpAny (model prog w) A (Builtin.«zip.__next__» ⟨[.ref (n+4)],[]⟩) Q E s:=by
 show wpAny _ _ (field (.ref (n+4)) 2 >>= _) _ _ _
 refine wpAny_bind (wpAny_field kz rfl (x:=.bool false) rfl ?_)
 show wpAny _ _ (field (.ref (n+4)) 3 >>= _) _ _ _
 refine wpAny_bind (wpAny_field kz rfl (x:=.ref (n+2)) rfl ?_)
 refine wpAny_bind (wpAny_seqItems q.pr rfl ?_)
 show wpAny _ _ (Builtin.SmallTypes.ownedTupleIsFree (.ref (n+4)) >>= _) _ _ _
 refine wpAny_bind (nY kz kT λh₁ kz₁ e₁ z₁=> ?_)
 have q₁:Zp h₁ n l1 t2 k xs ys:=q.keep λc o hc g=>e₁ c o (by omega) g
 simp only[Bool.false_eq_true,if_false,List.forIn_toArray,List.forIn_cons,List.forIn_nil];refine wpAny_bind (wpAny_bind (wpAny_bind (wpAny_holding ?_)))
 show wpAny _ _ (Builtin.SmallTypes.nextOf (.ref n) >>= _) _ _ _
 exact wpAny_bind (wpAny_nextOf_list_end hh q₁.i1 q₁.s1 hx λh₂ e e₂ he=>ke h₂ e (λc o c1 c4 g=>e₂ _ _ c1 (e₁ c o c4 g)) he)
theorem vO {T:Addr}{ob:Obj}{f:Bool}{Q:Option Value->Shared->Prop}(q:Zp s.heap n l1 t2 k xs ys)(kz:zO s.heap (n+4) (n+2) (n+3) (rawInt T) (.bool f))(kT:s.heap.get? T=some ob)(hx:xs[k]? =some x)(hy:ys[k]? =some y)
  (kq:∀h' p,s.heap.objs.size<=p->IsPair h' p x y->zO h' (n+4) (n+2) (n+3) (rawInt T) (.bool true)->Zp h' n l1 t2 (k+1) xs ys->(∀c o,c≠n->c≠n+1->c≠n+4->s.heap.get? c=some o->h'.get? c=some o)->Q (some (.ref p)) { s with heap:=h' }) :
  wpAny (model prog w) A (pyNext (.ref (n+4))) Q E s:=by
 have hy':s.TypeIs (.ref (n+4)) "zip":=⟨_,kz,rfl⟩;unfold pyNext;exact wpAny_bind (wpAny_attempt (wpAny_callSpecial?_slot (name:=Str.ofString "__next__") hy' F.slot_zip_next (wpAny_call_entry F.slot_zip_next hy' F.entry_zip_next (sS q kz kT hx hy λh' p a1 a2 a3 a4 a5=>wpAny_pure (kq h' p a1 a2 a3 a4 a5)) (F.args_zip_next_1 _))))
theorem sQ {a b:Value}{Q:Option Value->Shared->Prop}(q:Zp s.heap n l1 t2 k xs ys)(kz:zO s.heap (n+4) (n+2) (n+3) .none (.bool false))(ho:IsPair s.heap (n+3) a b)(hx:xs[k]? =some x)(hy:ys[k]? =some y)
  (kq:∀h' p,s.heap.objs.size<=p->IsPair h' p x y->zO h' (n+4) (n+2) (n+3) (rawInt p) (.bool false)->Zp h' n l1 t2 (k+1) xs ys->(∀c o,c≠n->c≠n+1->c≠n+3->c≠n+4->s.heap.get? c=some o->h'.get? c=some o)->Q (some (.ref p)) { s with heap:=h' }) :
  wpAny (model prog w) A (pyNext (.ref (n+4))) Q E s:=by
 have hy':s.TypeIs (.ref (n+4)) "zip":=⟨_,kz,rfl⟩;unfold pyNext;exact wpAny_bind (wpAny_attempt (wpAny_callSpecial?_slot (name:=Str.ofString "__next__") hy' F.slot_zip_next (wpAny_call_entry F.slot_zip_next hy' F.entry_zip_next (rE q kz ho hx hy λh' p a1 a2 a3 a4 a5=>wpAny_pure (kq h' p a1 a2 a3 a4 a5)) (F.args_zip_next_1 _))))
theorem vN {T:Addr}{ob:Obj}{f:Bool}{Q:Option Value->Shared->Prop}(hh:A.handled=none)(q:Zp s.heap n l1 t2 k xs ys)(kz:zO s.heap (n+4) (n+2) (n+3) (rawInt T) (.bool f))(kT:s.heap.get? T=some ob)(hx:xs[k]? =none)
  (kq:∀h',(∀c o,c≠n->c≠n+4->s.heap.get? c=some o->h'.get? c=some o)->Q none { s with heap:=h' }):wpAny (model prog w) A (pyNext (.ref (n+4))) Q E s:=by
 have hy':s.TypeIs (.ref (n+4)) "zip":=⟨_,kz,rfl⟩;unfold pyNext;refine wpAny_bind (wpAny_attempt (wpAny_callSpecial?_slot (name:=Str.ofString "__next__") hy' F.slot_zip_next (wpAny_call_entry F.slot_zip_next hy' F.entry_zip_next (sR hh q kz kT hx λh' e a1 he=> ?_) (F.args_zip_next_1 _))))
 obtain⟨o,ho,hc⟩:=he;exact wpAny_bind (wpAny_isInstance (T:="StopIteration") (b:=true) ⟨o,ho,hc⟩ isSubtype_stop (wpAny_pure (kq _ a1)))
theorem vP {f0 f1:Value}{Q:Value->Shared->Prop}(kz:zO s.heap (n+4) (n+2) (n+3) f0 f1)(h:Q (.ref (n+4)) s):wpAny (model prog w) A (pyIter (.ref (n+4))) Q E s:=by
 have hy':s.TypeIs (.ref (n+4)) "zip":=⟨_,kz,rfl⟩;refine wpAny_pyIter_slot hy' F.slot_zip_iter (wpAny_call_entry F.slot_zip_iter hy' F.entry_zip_iter ?_ (F.args_zip_iter_1 _))
 show wpAny _ _ (ret (.ref (n+4))) _ _ s
 exact wpAny_pure ⟨_,rfl,"zip",_,hy',F.slot_zip_next.lookup,h⟩
end
abbrev Ax (h:Heap)(l t:Addr):Heap:=h.push { cls:=.type "list_iterator",data:=.fields #[.ref l,.int 0 0] }
abbrev B9 (h:Heap)(l t:Addr):Heap:=(Ax h l t).push { cls:=.type "tuple_iterator",data:=.fields #[.ref t,.int 0 0] }
abbrev B8 (h:Heap)(l t:Addr):Heap:=(B9 h l t).push { cls:=.type "tuple",data:=.seq #[.ref h.objs.size,.ref (Ax h l t).objs.size] }
abbrev B7 (h:Heap)(l t:Addr):Heap:=(B8 h l t).push { cls:=.type "tuple",data:=.seq #[.none,.none] }
abbrev xT (h:Heap)(l t:Addr):Heap:=(B7 h l t).push { cls:=.type "zip",data:=.fields #[.none,.bool false,.bool false,.ref (B9 h l t).objs.size,.ref (B8 h l t).objs.size] }
theorem rZ (l t:Addr)(xs ys:Array Value):Meets (Builtin.«zip.__new__» ⟨[.type "zip",.ref l,.ref t],[]⟩) (λ_ R s=>s.heap.IsList l xs/\s.heap.IsTuple t ys/\R (.ok (.ret (.ref (B7 s.heap l t).objs.size))) { s with heap:=xT s.heap l t }):=
 .of_wp λprog w A R s q=>by
  obtain⟨hp,g,d,tk,os⟩:=s;obtain⟨a1,a2,q⟩:=q
  have k0:=sub_zip
  have k1:Heap.IsList (Shared.heap ⟨hp,g,d,tk,os⟩) l xs:=a1
  have k2:Heap.IsTuple (Shared.heap ⟨Ax hp l t,g,d,tk,os⟩) t ys:=fX a2 λo e=>Heap.get?_push_of_some _ e
  wp_walk using wpAny_pyIter_list k1,wpAny_pyIter_tuple k2
  exact⟨_,rfl,q⟩
section
variable {prog:Program}{w:World}{A:Around}{E:Value->Shared->Prop}{s:Shared}
theorem vQ {l t:Addr}{xs ys:Array Value}{Q:Value->Shared->Prop}(a1:s.heap.IsList l xs)(a2:s.heap.IsTuple t ys)
  (q:∀h',Zp h' s.heap.objs.size l t 0 xs ys->zO h' (s.heap.objs.size+4) (s.heap.objs.size+2) (s.heap.objs.size+3) .none (.bool false)->IsPair h' (s.heap.objs.size+3) .none .none->h'.objs.size=s.heap.objs.size+5 →
   (∀c o,s.heap.get? c=some o->h'.get? c=some o)->Q (.ref (s.heap.objs.size+4)) { s with heap:=h' }) :
  wpAny (model prog w) A (call (.type "zip") [.ref l,.ref t]) Q E s:=by
 refine callType_new F.called_zip (by decide) (F.typeCall_zip_2 _ _) (F.newCall_zip_2 _ _) (λobj=>F.args_object_init_3 obj _ _) F.entry_zip_new (rZ l t xs ys) ⟨a1,a2,?_⟩
 have z1:(Ax s.heap l t).objs.size=s.heap.objs.size+1:=Heap.size_push ..
 have z2:(B9 s.heap l t).objs.size=s.heap.objs.size+2:=by rw[Heap.size_push,z1]
 have z3:(B8 s.heap l t).objs.size=s.heap.objs.size+3:=by rw[Heap.size_push,z2]
 have z4:(B7 s.heap l t).objs.size=s.heap.objs.size+4:=by rw[Heap.size_push,z3]
 have z5:(xT s.heap l t).objs.size=s.heap.objs.size+5:=by rw[Heap.size_push,z4]
 have g5:(xT s.heap l t).get? (B7 s.heap l t).objs.size=some _:=Heap.get?_push_size _ rfl
 have g4:(xT s.heap l t).get? (B8 s.heap l t).objs.size=some _:=Heap.get?_push_of_some _ (Heap.get?_push_size _ rfl)
 have g3:(xT s.heap l t).get? (B9 s.heap l t).objs.size=some _:=Heap.get?_push_of_some _ (Heap.get?_push_of_some _ (Heap.get?_push_size _ rfl))
 have g2:(xT s.heap l t).get? (Ax s.heap l t).objs.size=some _:=Heap.get?_push_of_some _ (Heap.get?_push_of_some _ (Heap.get?_push_of_some _ (Heap.get?_push_size _ rfl)))
 have g1:(xT s.heap l t).get? s.heap.objs.size=some _:=Heap.get?_push_of_some _ (Heap.get?_push_of_some _ (Heap.get?_push_of_some _ (Heap.get?_push_of_some _ (Heap.get?_push_size _ rfl))))
 have up:∀c o,s.heap.get? c=some o->(xT s.heap l t).get? c=some o:=λc o e=>Heap.get?_push_of_some _ (Heap.get?_push_of_some _ (Heap.get?_push_of_some _ (Heap.get?_push_of_some _ (Heap.get?_push_of_some _ e))))
 show _/\_
 rw[z2,z3,z4]at g5;rw[z1,z2]at g3;rw[z3]at g4;rw[z1]at g2;rw[z4]
 have lt1:l<s.heap.objs.size:=by obtain⟨o,e,_⟩:=a1;exact Heap.lt_size e
 have lt2:t<s.heap.objs.size:=by obtain⟨o,e,_⟩:=a2;exact Heap.lt_size e
 exact⟨⟨_,g5,rfl⟩,q _ ⟨lt1,lt2,g3,⟨_,g1,rfl,rfl⟩,⟨_,g2,rfl,rfl⟩,a1.at λo e=>up _ o e,fX a2 λo e=>up _ o e⟩ g5 g4 z5 up⟩
end
end PySem
namespace Tr
open PySem PySem.Spec PyProof.Rows L2
def ZAt (H:Hp):List V->List V->List (List Key×V)->Prop
 | [],[],ps=>ps= []
 | x::xs,y::ys,ps=> ∃kb p r,ps=p::r/\x= .ref kb/\H kb=some (.tup (p.1.map kV))/\p.2=y/\ZAt H xs ys r
 | _,_,_=>False
theorem ZAt.mono {H H':Hp}(h:∀b vs,H b=some (.tup vs)->H' b=some (.tup vs)):∀{xs ys:List V} {ps:List (List Key×V)},ZAt H xs ys ps->ZAt H' xs ys ps
 | [],[],_,z=>z
 | [],_::_,_,z=>z
 | _::_,[],_,z=>z
 | x::xs,y::ys,_,⟨kb,p,r,e1,e2,e3,e4,e5⟩=>⟨kb,p,r,e1,e2,h _ _ e3,e4,e5.mono h⟩
theorem ZAt.len {H:Hp}:∀{xs ys:List V} {ps:List (List Key×V)},ZAt H xs ys ps->xs.length=ys.length
 | [],[],_,_=>rfl
 | [],_::_,_,z=>z.elim
 | _::_,[],_,z=>z.elim
 | x::xs,y::ys,_,⟨kb,p,r,e1,e2,e3,e4,e5⟩=>by rw[List.length_cons,List.length_cons,e5.len]
section
variable {X:Cx}{pins:List (Addr×Obj)}{σ:L2.St}{A:Around}{res:Value}{R:Result->Shared->Prop}{d it:Addr}
theorem rg {Ex:Heap->Prop}{i:Nat}{s:Shared}{H:Hp}{kvs:List (List Key×V)}{kb:Addr}{kk:List Key}{v:V}(hu:A.units+3<cLine)(hd:H d=some (.dT kvs))(hz:kvs.length<1000)(hk:H kb=some (.tup (kk.map kV)))
  (hn:∀{Q:Option Value->Shared->Prop} {E:Value->Shared->Prop},(∀h' p u2,Inv X pins σ H { s with heap:=h' }->IsPair h' p (.ref kb) u2->RelV v u2->Ex h'->Q (some (.ref p)) { s with heap:=h' })->wpAny (model X.prog X.w) A.in1 (pyNext (.ref it)) Q E s)
  (nx:∀h' h2 tk,Ex h'->(∀c,c≠d->h2.get? c=h'.get? c)->Inv X pins σ (upd H d (.dT (cK kvs kk v))) { s with heap:=h2,toks:=tk }->codeAny (model X.prog X.w) A (.builtin "dict.update.loop" ⟨[.ref d,.ref it,rawInt ((i+1:Nat):Int),res],[]⟩) R { s with heap:=h2,toks:=tk }) :
  codeAny (model X.prog X.w) A (.builtin "dict.update.loop" ⟨[.ref d,.ref it,rawInt (i:Nat),res],[]⟩) R s:=by
 refine codeAny_builtin F.entry_dict_update_loop ?_
 rw[Around.under_plainId F.plain_dict_update_loop _]
 show wpAny _ A.in1 (pyNext (.ref it) >>= _) _ _ s
 refine wpAny_bind (hn λh' p u2 I1 hp q2 hx=> ?_)
 show wpAny _ A.in1 (holding [Value.ref p] _ >>= _) _ _ _
 refine wpAny_bind (wpAny_holding (wpAny_bind (wpAny_tryCatch ?_)))
 unfold Builtin.Dict.pairItems;refine wpAny_bind (wpAny_typeOf (s:={ s with heap:=h' }) (T:="tuple") ⟨_,hp,rfl⟩ ?_)
 rw[if_pos (by decide)]
 refine wpAny_bind (wpAny_seqItems (s:={ s with heap:=h' }) hp rfl (wpAny_pure ?_))
 show wpAny _ _ (holding [Value.ref kb,u2] (dictSet d (.ref kb) u2)) _ _ _
 refine wpAny_holding ?_
 obtain⟨zz,hds,xs2,rel,dd⟩:=re I1.hok hd
 have hzl:xs2.length<=sizeLine:=by rw[<-Paired.length rel];exact zz
 have hkl:kvs.length<sizeLine:=by rw[sizeLine_eq];omega
 have hl2:(cK kvs kk v).length<=sizeLine:=by have:=dq kvs kk v;omega
 refine wpAny_dictSet_heap (hsz:=hzl) (tupleKind_room_in1 (by show A.units+1<cLine;omega)) (jp I1.hok hk) dd λh2 dd2 hs2=> ?_
 obtain⟨q,es,ep,hq,h22,h3,h4,_,h5⟩:=dd2
 have I2:Inv X pins σ (upd H d (.dT (cK kvs kk v))) { s with heap:=h2,toks:=s.toks+(tupleKind (bU X.prog X.w)).draws kk }:=
  kl (s:={ s with heap:=h' }) I1 (by rw[hd];exact True.intro) hs2 ⟨q,hq⟩ ⟨hl2,hds,_,(rel.put kk hk q2).keeps λc ys ec=>by rw[aG (kZ ec hd (λz=>nomatch z))];exact ec,q,es,ep,hq,h22,h3,h4,h5⟩
 have hcast:(i:Int)+1=((i+1:Nat):Int):=by omega
 refine wpAny_pure ⟨plainId_quiet F.plain_dict_update_loop _,?_⟩
 rw[hcast];exact nx h' h2 _ hx (λc hc=>hs2.2 c hc) I2
theorem Ad {s:Shared}{i:Nat}(hn:∀{Q:Option Value->Shared->Prop} {E:Value->Shared->Prop},(∀h',R (.ok (.ret res)) { s with heap:=h' }->Q none { s with heap:=h' })->wpAny (model X.prog X.w) A.in1 (pyNext (.ref it)) Q E s) :
  codeAny (model X.prog X.w) A (.builtin "dict.update.loop" ⟨[.ref d,.ref it,rawInt (i:Nat),res],[]⟩) R s:=by
 refine codeAny_builtin F.entry_dict_update_loop ?_
 rw[Around.under_plainId F.plain_dict_update_loop _]
 show wpAny _ A.in1 (pyNext (.ref it) >>= _) _ _ s
 refine wpAny_bind (hn λh' hr=> ?_)
 show wpAny _ _ (Builtin.Dict.addKeywords d [] >>= _) _ _ _
 exact wpAny_bind (wpAny_pure (wpAny_pure hr))
theorem vR {n l1 t2:Nat}{us ws:Array Value}{xs ys:List V}{T:Addr}(hh:A.handled=none)(hu:A.units+3<cLine)(rx:Vals xs us.toList)(ry:Vals ys ws.toList)(hTn:n+4<T)(hTd:T≠d):∀(k i:Nat) (s:Shared) (H:Hp) (kvs ps:List (List Key×V)) (f:Bool) (ob:Obj),xs.length - i=k->i<=xs.length->H d=some (.dT kvs)->kvs.length+(xs.length - i)<=1000 →
  Inv X pins σ H s->Zp s.heap n l1 t2 i us ws->zO s.heap (n+4) (n+2) (n+3) (rawInt T) (.bool f)->s.heap.get? T=some ob->(∀j:Nat,j<5->jd X pins H (n+j))->l1≠d->t2≠d->ZAt H (xs.drop i) (ys.drop i) ps →
  (∀s',Inv X pins σ (upd H d (.dT (fA kvs ps))) s'->R (.ok (.ret res)) s')->codeAny (model X.prog X.w) A (.builtin "dict.update.loop" ⟨[.ref d,.ref (n+4),rawInt i,res],[]⟩) R s:=by
 have lenx:=rx.length
 have leny:=ry.length;intro k
 induction k with
 | zero=>
  intro i s H kvs ps f ob hk hi hd hz I q kz kT hf hl1 ht2 hp hR
  have hnil:xs.drop i= []:=List.drop_eq_nil_of_le (by omega)
  have hny:ys.drop i= []:=by
   have:=hp.len;rw[hnil]at this;exact List.length_eq_zero_iff.mp this.symm
  rw[hnil,hny]at hp;unfold ZAt at hp;subst hp
  have e2:upd H d (.dT (fA kvs []))=H:=by
   funext b
   by_cases hb:b=d
   ·rw[hb,aR,hd];rfl
   ·rw[aG hb]
  rw[e2]at hR;refine Ad λ{Q E} hq=>vN hh q kz kT (by rw[Array.getElem?_eq_none];rw[<-Array.length_toList];omega) λh' e=>hq h' (hR _ ?_)
  exact I.turnedL (fp:=[n,n+4]) (t':=s.toks) (λb hb=>by
   simp only[List.mem_cons,List.not_mem_nil,or_false]at hb;rcases hb with rfl | rfl
   ·exact hf 0 (by omega)
   ·exact hf 4 (by omega)) λb o hb eb=>e b o (λz=>hb (by rw[z];simp)) (λz=>hb (by rw[z];simp)) eb
 | succ k ih=>
  intro i s H kvs ps f ob hk hi hd hz I q kz kT hf hl1 ht2 hp hR
  have hlt:i<xs.length:=by omega
  have hdx:xs.drop i=xs[i] ::xs.drop (i+1):=List.drop_eq_getElem_cons hlt
  have hyl:i<ys.length:=by
   have:=hp.len;rw[List.length_drop,List.length_drop]at this;omega
  have hdy:ys.drop i=ys[i] ::ys.drop (i+1):=List.drop_eq_getElem_cons hyl;rw[hdx,hdy]at hp;obtain⟨kb,p,r,rfl,ex,hkb,ep,hp'⟩:=hp;obtain⟨u1,q1,q2⟩:=rx.get (List.getElem?_eq_getElem hlt)
  obtain⟨u2,q3,q4⟩:=ry.get (List.getElem?_eq_getElem hyl)
  rw[Array.getElem?_toList]at q1 q3
  rw[ex]at q2;obtain rfl:u1=Value.ref kb:=q2;rw[<-ep]at q4
  have hd0:∀j:Nat,j<5->n+j≠d:=λj hj z=>by have:=(hf j hj).1;rw[z,hd]at this;cases this
  refine rg (pins:=pins) (σ:=σ) (Ex:=λh'=>Zp h' n l1 t2 (i+1) us ws/\zO h' (n+4) (n+2) (n+3) (rawInt T) (.bool true)/\h'.get? T=some ob) hu hd (by omega) hkb (λ{Q E} hq=>vO q kz kT q1 q3 λh' b _ a2 a3 a4 a5=>hq h' b u2 ?_ a2 q4 ⟨a4,a3,a5 _ _ (dJ (by omega)) (dJ (by omega)) (dJ (by omega)) kT⟩) λh1 h2 tk hx3 e2 I2=> ?_
  ·exact I.turnedL (fp:=[n,n+1,n+4]) (t':=s.toks) (λb hb=>by
    simp only[List.mem_cons,List.not_mem_nil,or_false]at hb;rcases hb with rfl | rfl | rfl
    ·exact hf 0 (by omega)
    ·exact hf 1 (by omega)
    ·exact hf 4 (by omega)) λb o hb eb=>a5 b o (λz=>hb (by rw[z];simp)) (λz=>hb (by rw[z];simp)) (λz=>hb (by rw[z];simp)) eb
  ·obtain⟨x1,x2,x3⟩:=hx3
   have lt1:=x1.b1
   have lt2:=x1.b2
   have x1':Zp h2 n l1 t2 (i+1) us ws:=⟨x1.b1,x1.b2,(e2 _ (hd0 2 (by omega))).trans x1.pr,x1.i1.at λo g=>(e2 _ (hd0 0 (by omega))).trans g,x1.i2.at λo g=>(e2 _ (hd0 1 (by omega))).trans g,x1.s1.at λo g=>(e2 _ hl1).trans g,fX x1.s2 λo g=>(e2 _ ht2).trans g⟩
   refine ih (i+1) _ (upd H d (.dT (cK kvs p.1 p.2))) (cK kvs p.1 p.2) r true ob (by omega) (by omega) aR (by have:=dq kvs p.1 p.2;omega) I2 x1' ((e2 _ (hd0 4 (by omega))).trans x2) ((e2 _ hTd).trans x3) (λj hj=>⟨by rw[aG (hd0 j hj)];exact(hf j hj).1,(hf j hj).2⟩) hl1 ht2 (hp'.mono λb vs e=>by rw[aG (kZ e hd (λz=>nomatch z))];exact e) λs' I'=> ?_
   rw[gQ]at I';exact hR s' I'
end
section
variable {X:Cx}{pins:List (Addr×Obj)}{σ:L2.St}{A:Around}{E:Value->Shared->Prop}{H:Hp}{s:Shared}{n l1 t2:Nat}{us ws:Array Value}{xs ys:List V}{ps:List (List Key×V)}
theorem xC {Q:Value->Shared->Prop}(hh:A.handled=none)(hu:A.units+8<cLine)(I:Inv X pins σ H s)(q:Zp s.heap n l1 t2 0 us ws)(kz:zO s.heap (n+4) (n+2) (n+3) .none (.bool false))(ko:IsPair s.heap (n+3) .none .none)
  (hf:∀j:Nat,j<5->jd X pins H (n+j)) (rx:Vals xs us.toList) (ry:Vals ys ws.toList) (h1:1<=xs.length) (hz:xs.length<=1000) (hp:ZAt H xs ys ps)
  (h:∀p s',Nw X.K H p->Inv X pins σ (upd H p (.dT (fA [] ps))) s'->Q (.ref p) s'):wpAny (model X.prog X.w) A (call (.type "dict") [.ref (n+4)]) Q E s:=by
 have hk:X.K.lookup s.heap.objs.size=none:=by
  cases q:X.K.lookup s.heap.objs.size with
  | none=>rfl
  | some o=>exact absurd (Heap.lt_size (I.kIn _ o q)) (Nat.lt_irrefl _)
 have hn:H s.heap.objs.size=none:=I.hok.fresh (Nat.le_refl _)
 have z4:n+4<s.heap.objs.size:=Heap.lt_size kz
 have b1:=q.b1
 have b2:=q.b2;refine callType_codes (Q₁:=λobj s₁=>obj= .ref s.heap.objs.size/\s₁= { s with heap:=s.heap.push { cls:=.type "dict",data:=.dict #[] } }) F.kt_called_dict (F.kt_typeCall_dict_1 _) F.entry_dict_init (kt_code_dict_new _ ⟨rfl,rfl⟩) ?_
 rintro obj s₁ ⟨rfl,rfl⟩
 have I1:Inv X pins σ (upd H s.heap.objs.size (.dT [])) { s with heap:=s.heap.push { cls:=.type "dict",data:=.dict #[] } }:=I.laid (a:=s.heap.objs.size) (o:=.dT []) (t':=s.toks) (λ_ _ q=>Heap.get?_push_of_some _ q) (Nat.le_refl _) (pj s.heap I.big)
 have hT:({ s with heap:=s.heap.push { cls:=.type "dict",data:=.dict #[] } }:Shared).TypeIs (.ref s.heap.objs.size) "dict":=⟨_,Heap.get?_push_size _ rfl,rfl⟩
 have kz1:zO (s.heap.push { cls:=.type "dict",data:=.dict #[] }) (n+4) (n+2) (n+3) .none (.bool false):=Heap.get?_push_of_some _ kz
 refine⟨hT,F.args_dict_init_2 _ _,?_⟩
 unfold Builtin.«dict.__init__»;refine wpAny_bind ?_
 unfold Builtin.Dict.selfAndRest;refine wpAny_bind (wpAny_notOrdered_dict hT ?_)
 show wpAny _ _ (pure (s.heap.objs.size,[Value.ref (n+4)])) _ _ _
 refine wpAny_pure ?_
 show wpAny _ _ (Builtin.Dict.updateFrom "dict.__init__" s.heap.objs.size (.ref (n+4)) [] .none) _ _ _
 unfold Builtin.Dict.updateFrom;refine wpAny_bind (wpAny_typeOf (T:="zip") ⟨_,kz1,rfl⟩ ?_)
 rw[if_pos (by decide)]
 refine wpAny_bind (zk3 kz1 hh λh' tk' kp=> ?_)
 have I2:Inv X pins σ (upd H s.heap.objs.size (.dT [])) { s with heap:=h',toks:=tk' }:=I1.kept (t':=tk') kp
 have up:∀c o,s.heap.get? c=some o->h'.get? c=some o:=λc o e=>kp c o (Heap.get?_push_of_some _ e)
 rw[if_pos (by rfl)]
 refine wpAny_bind (wpAny_rule ?_)
 have kz2:zO h' (n+4) (n+2) (n+3) .none (.bool false):=up _ _ kz;refine wpAny_bind (vP (s:={ s with heap:=h',toks:=tk' }) kz2 ?_)
 refine wpAny_pure ⟨plainId_quiet F.plain_dict_update_loop _,?_⟩
 have q2:Zp h' n l1 t2 0 us ws:=q.keep λc o _ e=>up c o e
 have hsz:s.heap.objs.size<h'.objs.size:=Heap.lt_size (kp _ _ (Heap.get?_push_size _ rfl))
 have hf2:∀j:Nat,j<5->jd X pins (upd H s.heap.objs.size (.dT [])) (n+j):=λj hj=>⟨by rw[aG (dJ (by omega))];exact(hf j hj).1,(hf j hj).2⟩
 obtain⟨x,xs',rfl⟩:∃x xs',xs=x::xs':=by
  cases xs with
  | nil=>simp at h1
  | cons x xs'=>exact⟨x,xs',rfl⟩
 obtain⟨y,ys',rfl⟩:∃y ys',ys=y::ys':=by
  cases ys with
  | nil=>exact hp.elim
  | cons y ys'=>exact⟨y,ys',rfl⟩
 obtain⟨kb,p,r,rfl,ex,hkb,ep,hp'⟩:=hp;obtain⟨u1,v1,v2⟩:=rx.get (i:=0) rfl;obtain⟨u2,v3,v4⟩:=ry.get (i:=0) rfl;rw[Array.getElem?_toList]at v1 v3
 rw[ex]at v2;obtain rfl:u1=Value.ref kb:=v2;rw[<-ep]at v4;rw[List.length_cons]at hz
 have tupk:∀(o:List (List Key×V)) b vs,H b=some (.tup vs)->upd H s.heap.objs.size (.dT o) b=some (.tup vs):=λo b vs e=>by rw[aG (λz=>by rw[z,hn]at e;cases e)];exact e
 refine rg (A:=A.in1) (X:=X) (pins:=pins) (σ:=σ) (i:=0) (kvs:=[]) (Ex:=λh1=>Zp h1 n l1 t2 1 us ws/\∃T ob,h'.objs.size<=T/\zO h1 (n+4) (n+2) (n+3) (rawInt T) (.bool false)/\h1.get? T=some ob) (by show A.units+1+3<cLine;omega) aR (by simp) (tupk _ _ _ hkb)
  (λ{Q E} hq=>sQ q2 kz2 (up _ _ ko) v1 v3 λh1 b a1 a2 a3 a4 a5=>hq h1 b u2 ?_ a2 v4 ⟨a4,b,_,a1,a3,a2⟩) λh1 h2 tk hx3 e2 I3=> ?_
 ·exact I2.turnedL (fp:=[n,n+1,n+3,n+4]) (t':=tk') (λb hb=>by
   simp only[List.mem_cons,List.not_mem_nil,or_false]at hb;rcases hb with rfl | rfl | rfl | rfl
   ·exact hf2 0 (by omega)
   ·exact hf2 1 (by omega)
   ·exact hf2 3 (by omega)
   ·exact hf2 4 (by omega)) λb o hb eb=>a5 b o (λz=>hb (by rw[z];simp)) (λz=>hb (by rw[z];simp)) (λz=>hb (by rw[z];simp)) (λz=>hb (by rw[z];simp)) eb
 ·obtain⟨x1,T,ob,hTs,x2,x3⟩:=hx3
  have hd0:∀j:Nat,j<5->n+j≠s.heap.objs.size:=λj hj=>dJ (by omega)
  have x1':Zp h2 n l1 t2 1 us ws:=⟨x1.b1,x1.b2,(e2 _ (hd0 2 (by omega))).trans x1.pr,x1.i1.at λo g=>(e2 _ (hd0 0 (by omega))).trans g,x1.i2.at λo g=>(e2 _ (hd0 1 (by omega))).trans g,x1.s1.at λo g=>(e2 _ (dJ (by omega))).trans g,fX x1.s2 λo g=>(e2 _ (dJ (by omega))).trans g⟩
  rw[gQ]at I3;refine vR (A:=A.in1) (X:=X) (pins:=pins) (σ:=σ) (xs:=x::xs') (ys:=y::ys') (T:=T) hh (by show A.units+1+3<cLine;omega) rx ry (by omega) (dJ (by omega)) xs'.length 1 _ (upd H s.heap.objs.size (.dT (cK [] p.1 p.2))) (cK [] p.1 p.2) r false ob (by rw[List.length_cons];omega) (by rw[List.length_cons];omega) aR (by rw[List.length_cons];show 1+_<=1000;omega) I3 x1' ((e2 _ (hd0 4 (by omega))).trans x2) ((e2 _ (dJ (by omega))).trans x3) (λj hj=>⟨by rw[aG (hd0 j hj)];exact(hf j hj).1,(hf j hj).2⟩) (dJ (by omega)) (dJ (by omega)) (hp'.mono (tupk _)) λs' I'=> ?_
  rw[gQ]at I';exact⟨rfl,h _ _ ⟨hn,hk⟩ I'⟩
theorem xU {K:PySem.W.Frag}{O:Ow}{H:Hp}:∀{l m:List T} {xs ys:List V},jK l=true->l.length=m.length->Reps K O H l xs->Reps K O H m ys->∃ps,ZAt H xs ys ps/\B3 K O H (l.zip m) ps
 | [],[],xs,ys,_,_,r1,r2=>by cases Reps.nil_iff.mp r1;cases Reps.nil_iff.mp r2;exact⟨[],rfl,rfl⟩
 | [],_::_,_,_,_,h,_,_=>by simp at h
 | _::_,[],_,_,_,h,_,_=>by simp at h
 | a::l,b::m,xs,ys,hk,h,r1,r2=>by
  obtain⟨v,vs,rfl,p1,q1⟩:=Reps.cons_iff.mp r1;obtain⟨w,ws,rfl,p2,q2⟩:=Reps.cons_iff.mp r2;unfold jK at hk;rw[Bool.and_eq_true]at hk;obtain⟨kk,ek⟩:=Option.isSome_iff_exists.mp hk.1;obtain⟨ps,g1,g2⟩:=xU hk.2 (by simpa using h) q1 q2
  obtain⟨kb,f5,f6⟩:=i7 ek p1;exact⟨(kk,w)::ps,⟨kb,(kk,w),ps,rfl,f5,f6,rfl,g1⟩,⟨(kk,w),ps,rfl,ek,p2,g2⟩⟩
end
section
variable {X:Cx}{a b:Expr}{fs:En->Rs (List T)}{p p1 p2 pos:Pos}
theorem y0 (hu:X.A.units+8<cLine)(hc:X.calm=true)(hm:X.mg "dict" =none)(hmz:X.mg "zip" =none)(ha:nP X [a,b] fs)(hst:aZ [a,b] =true:=by rfl)(hg:Gl X "dict":=by rfl)(hgz:Gl X "zip":=by rfl) :
  cg X (.Call (.Name "dict" p) [.Call (.Name "zip" p1) [a,b] [] p2] [] pos) (cl BY fs):=by
 intro pins s σ H Q I ⟨Z,O,Ev,hq⟩
 have e1:starEach [Expr.Call (.Name "zip" p1) [a,b] [] p2] X.env=(false,eval (.Call (.Name "zip" p1) [a,b] [] p2) X.env)::starEach [] X.env:=bh rfl;unfold aZ at hst;rw[Bool.and_eq_true]at hst
 have e2:starEach [a,b] X.env=(false,eval a X.env)::starEach [b] X.env:=bh hst.1;refine wpAny_Call_Name_kw (fq I hg hm (show bootBuiltins "dict" =some (.type "dict")by decide+kernel) ?_ (by decide) (by decide))
 refine PyProof.Rows.callWith_type1 ?_ e1 rfl
 rw[e1];refine Calls.spliced_cons ?_
 refine wpAny_Call_Name_kw (fq I hgz hmz (show bootBuiltins "zip" =some (.type "zip")by decide+kernel) ?_ (by decide) (by decide))
 refine PyProof.Rows.callWith_type1 (cf (ha p2 pins s σ H _ I (dZ Ev hq)) λus s1 ⟨vs,H1,I1,r1,ts,rs,s',E',q1⟩=> ?_) e2 (e9 hst.2)
 unfold BY at q1
 split at q1
 ·rename_i l m
  by_cases hz:jK l=true/\l.length=m.length/\1<=l.length/\l.length<=1000
  ·rw[if_pos hz]at q1
   obtain⟨v1,vs1,rfl,ra,rb⟩:=Reps.cons_iff.mp rs;obtain⟨v2,rfl,rc⟩:=rb.one;obtain⟨c1,xs,rfl,_,hx,rx⟩:=Rep.lst_iff.mp ra;obtain⟨c2,ys,rfl,_,hy,ry⟩:=Rep.tup_iff.mp rc
   cases r1 with
   | cons w1 w2=>
    obtain⟨u2,rfl,w3⟩:=Vals.one w2;cases w1;obtain rfl:u2=Value.ref c2:=w3;obtain⟨z,its,n,rv,hlen,e⟩:=I1.lstM hx;obtain⟨z2,its2,r2,ob,hob1,hob2,nb,hob3⟩:=(show ObjOk X.prog X.w H1 s1.heap c2 (.tup ys)from I1.hok c2 _ hy)
    refine vQ (xs:=its.toArray) (ys:=its2.toArray) ⟨_,e,rfl,n,rfl⟩ ⟨ob,hob1,hob2,nb,hob3⟩ λh' g1 g2 g3 g4 g5=> ?_
    refine Calls.spliced_nil ?_
    have I2:Inv X pins σ H1 { s1 with heap:=h' }:=I1.kept (t':=s1.toks) g5
    obtain⟨ps,k1,k2⟩:=xU hz.1 hz.2.1 rx ry;refine xC (I2.ok.hd hc) hu I2 g1 g2 g3 (λj hj=>I1.fpOk (by omega) (I1.hok.fresh (by omega))) rv r2 (by rw[<-rx.length];exact hz.2.2.1) (by rw[<-rx.length];exact hz.2.2.2) k1 λq s' nw I'=>⟨.ref q,_,I',rfl,q1 _ (aP nw.1 _) _ ?_⟩
    obtain⟨d1,d2⟩:=jr (ks:=[]) (ts:=[]) (kvs:=[]) k2 rfl Reps.nil_ List.nodup_nil;exact Rep.dct_iff.mpr ⟨q,_,rfl,E'.fresh nw.1,aR,d1,d2.same (aP nw.1 _)⟩
  ·rw[if_neg hz]at q1;exact q1.elim
 ·exact q1.elim
end
structure QE (X:Cx)(e:Expr)(f:En->Rs T):Prop where
 h:cg X e f
structure QA (X:Cx)(e:List Expr)(f:En->Rs (List T)):Prop where
 h:nP X e f
structure QT (X:Cx)(e:Expr)(f:En->Rs Bool):Prop where
 h:pE X e f
structure QW (X:Cx)(e:Expr)(f:En->Rs Bool):Prop where
 h:yo X e f
structure QS (X:Cx)(e:Stmt)(f:En->Rs Fl):Prop where
 h:nN X e f
structure vI (X:Cx)(e:List Stmt)(f:En->Rs Fl):Prop where
 h:j6 X e f
structure QG (X:Cx)(e:Expr)(f:T->En->Rs En):Prop where
 h:yp X e f
structure Cm (X:Cx)(e:List Expr)(f:List T->En->Rs En):Prop where
 h:vC X e f
structure QI (X:Cx)(t e:Expr)(f:En->Rs (List T)):Prop where
 h:xO X t e f
structure QO (X:Cx)(e:Option Expr)(f:En->Rs (Option Int)):Prop where
 h:B4 X e f
structure Ck (X:Cx)(e:List Expr)(f:En->Rs Bool):Prop where
 h:sM X e (sY X f)
theorem ae {X:Cx}(i:Nat){x:Str}{pos:Pos}(hN:(Cx.N X)[i]? =some x:=by rfl)(hv:vt (Env.scope (Cx.env X)) x:=by first | exact Or.inl rfl | exact Or.inr (Or.inl rfl) | exact Or.inr (Or.inr rfl))(hd:(x == Str.ofString "__debug__")=false:=by decide)(hcd:(x == Str.ofString "__classdict__")=false:=by decide):QE X (Expr.Name x pos) (vr i):=
 ⟨AY (i:=i) (hN:=hN) (hv:=hv) (hd:=hd) (hcd:=hcd)⟩
theorem ai {X:Cx}{i:Int}{j:Nat}{pos:Pos}:QE X (Expr.Constant (Const.int i) j pos) (cn (T.int i)):=
 ⟨A7 ⟩
theorem eK {X:Cx}{i:Bool}{j:Nat}{pos:Pos}:QE X (Expr.Constant (Const.bool i) j pos) (cn (T.bl i)):=
 ⟨q_bl ⟩
theorem cj {X:Cx}{j:Nat}{pos:Pos}:QE X (Expr.Constant Const.none j pos) (cn T.non):=
 ⟨A3 ⟩
theorem vL {X:Cx}{x:Str}{i:Int}{u:Value}{pos:Pos}(hm:Cx.mg X x=some u)(r:L2.RelV (V.int i) u)(hg:Gl X x:=by rfl)(hd:(x == Str.ofString "__debug__")=false:=by decide):QE X (Expr.Name x pos) (cn (T.int i)):=
 ⟨yZ (hm:=hm) (r:=r) (hg:=hg) (hd:=hd)⟩
theorem af {X:Cx}:QA X [] ah:=
 ⟨yY ⟩
theorem ag {X:Cx}{e:Expr}{es:List Expr}{f:En->Rs T}{g:En->Rs (List T)}(he:QE X e f)(hr:QA X es g)(hn:bS e=true:=by rfl):QA X (e::es) (ac f g):=
 ⟨qa_c (he:=he.h) (hr:=hr.h) (hn:=hn)⟩
theorem bP {X:Cx}{es:List Expr}{x1:Nat}{pos:Pos}{f:En->Rs (List T)}(h:QA X es f):QE X (Expr.Tuple es x1 pos) (bq f):=
 ⟨AZ (h:=h.h)⟩
theorem eE {X:Cx}{es:List Expr}{pos:Pos}{f:En->Rs (List T)}(h:QA X es f):QE X (Expr.List es pos) (c7 f):=
 ⟨A5 (h:=h.h)⟩
theorem aq {X:Cx}{a b:Expr}{fa fb:En->Rs T}{pos:Pos}{op:Operator}{g:T->T->Rs T}(ho:OpT X (binaryOp op) g)(ha:QE X a fa)(hb:QE X b fb):QE X (Expr.BinOp a op b pos) (o2 g fa fb):=
 ⟨Ba (ho:=ho) (ha:=ha.h) (hb:=hb.h)⟩
theorem dv {X:Cx}{a b:Expr}{fa fb:En->Rs T}{pos:Pos}{op:CmpOp}{g:T->T->Rs T}(ho:OpT X (compareOp op) g)(ha:QE X a fa)(hb:QE X b fb)(hm:behindInMarks op b=false:=by rfl):QE X (Expr.Compare a [op] [b] pos) (o2 g fa fb):=
 ⟨A9 (ho:=ho) (ha:=ha.h) (hb:=hb.h) (hm:=hm)⟩
theorem pF {X:Cx}{a:Expr}{fa:En->Rs T}{pos:Pos}(ha:QE X a fa):QE X (Expr.UnaryOp UnaryOp.USub a pos) (o1 oU fa):=
 ⟨A4 (ha:=ha.h)⟩
theorem nW {X:Cx}{a b c:Expr}{fa fb fc:En->Rs T}{pos:Pos}{op op':CmpOp}{g g':T->T->Rs T}(ho:OpT X (compareOp op) g)(ho':OpT X (compareOp op') g')(ha:QE X a fa)(hb:QE X b fb)(hc:QE X c fc)(hm:lastMarks [op,op'] [b,c] =false:=by with_unfolding_all rfl):QE X (Expr.Compare a [op,op'] [b,c] pos) (ch g g' fa fb fc):=
 ⟨wA (ho:=ho) (ho':=ho') (ha:=ha.h) (hb:=hb.h) (hc:=hc.h) (hm:=hm)⟩
theorem cy {X:Cx}{e:Expr}{f:En->Rs T}(h:QE X e f)(he:∀(whole:Sem Value),PySem.isTrue e (Cx.env X) whole=(do let v <-whole;standAt (Expr.pos e);holding [v] (truthy v)):=by intro _;rfl):QT X e (tb f):=
 ⟨yJ (h:=h.h) (he:=he)⟩
theorem bo {X:Cx}{a b:Expr}{fa fb:En->Rs T}{pos:Pos}{op:CmpOp}{g:T->T->Rs T}(ho:OpT X (compareOp op) g)(ha:QE X a fa)(hb:QE X b fb)(hm:behindInMarks op b=false:=by rfl):QT X (Expr.Compare a [op] [b] pos) (tb (o2 g fa fb)):=
 ⟨yL (ho:=ho) (ha:=ha.h) (hb:=hb.h) (hm:=hm)⟩
theorem nU {X:Cx}{a:Expr}{pos:Pos}{f:En->Rs Bool}(ha:QT X a f):QW X (Expr.BoolOp BoolOp.And [a] pos) f:=
 ⟨wg (ha:=ha.h)⟩
theorem gP {X:Cx}{a:Expr}{pos:Pos}{f:En->Rs Bool}(ha:QT X a f):QW X (Expr.BoolOp BoolOp.Or [a] pos) f:=
 ⟨yH (ha:=ha.h)⟩
theorem qo {X:Cx}{a b:Expr}{pos:Pos}{f g:En->Rs Bool}{cv:List Expr}(ha:QT X a f)(hb:QW X (Expr.BoolOp BoolOp.And (b::cv) pos) g):QW X (Expr.BoolOp BoolOp.And (a::b::cv) pos) (lA f g):=
 ⟨yI (ha:=ha.h) (hb:=hb.h)⟩
theorem jf {X:Cx}{a b:Expr}{pos:Pos}{f g:En->Rs Bool}{cv:List Expr}(ha:QT X a f)(hb:QW X (Expr.BoolOp BoolOp.Or (b::cv) pos) g):QW X (Expr.BoolOp BoolOp.Or (a::b::cv) pos) (jI f g):=
 ⟨AT (ha:=ha.h) (hb:=hb.h)⟩
theorem jB {X:Cx}{f:En->Rs Bool}{e:Expr}(h:QW X e f):QT X e f:=
 ⟨qt_w (h:=h.h)⟩
theorem cT {X:Cx}{a:Expr}{pos:Pos}{f:En->Rs Bool}(ha:QT X a f):QT X (Expr.UnaryOp UnaryOp.Not a pos) (cD f):=
 ⟨yK (ha:=ha.h)⟩
theorem cN {X:Cx}{a:Expr}{fa:En->Rs T}{pos:Pos}{op:BoolOp}(h:QE X a fa):QE X (Expr.BoolOp op [a] pos) fa:=
 ⟨A1 (h:=h.h)⟩
theorem cJ {X:Cx}{a b:Expr}{fa fb:En->Rs T}{pos:Pos}{cv:List Expr}(ha:QE X a fa)(hb:QE X (Expr.BoolOp BoolOp.And (b::cv) pos) fb):QE X (Expr.BoolOp BoolOp.And (a::b::cv) pos) (bJ fa fb):=
 ⟨Bb (ha:=ha.h) (hb:=hb.h)⟩
theorem xR {X:Cx}{a b:Expr}{fa fb:En->Rs T}{pos:Pos}{cv:List Expr}(ha:QE X a fa)(hb:QE X (Expr.BoolOp BoolOp.Or (b::cv) pos) fb):QE X (Expr.BoolOp BoolOp.Or (a::b::cv) pos) (vG fa fb):=
 ⟨q_or (ha:=ha.h) (hb:=hb.h)⟩
theorem yv {X:Cx}{a:Expr}{fa:En->Rs T}{pos:Pos}(ha:QE X a fa):QE X (Expr.UnaryOp UnaryOp.Not a pos) (o1 w9 fa):=
 ⟨A2 (ha:=ha.h)⟩
theorem Aw {X:Cx}{a b c:Expr}{fa fb:En->Rs T}{pos:Pos}{f:En->Rs Bool}(hc:QT X c f)(ha:QE X a fa)(hb:QE X b fb):QE X (Expr.IfExp c a b pos) (Au f fa fb):=
 ⟨q_if (hc:=hc.h) (ha:=ha.h) (hb:=hb.h)⟩
theorem aB {X:Cx}{a b:Expr}{fa fb:En->Rs T}{pos:Pos}(ha:QE X a fa)(hb:QE X b fb)(hs:rA b:=by intro _ _;rfl):QE X (Expr.Subscript a b pos) (o2 aN fa fb):=
 ⟨q_ix (ha:=ha.h) (hb:=hb.h) (hs:=hs)⟩
theorem gk {X:Cx}:QO X none pN:=
 ⟨wq ⟩
theorem gh {X:Cx}{a:Expr}{fa:En->Rs T}(ha:QE X a fa):QO X (some a) (pS fa):=
 ⟨wo (ha:=ha.h)⟩
theorem gp {X:Cx}{a:Expr}{fa:En->Rs T}{pos:Pos}{lo hi:Option Expr}{p2:Pos}{fl fu:En->Rs (Option Int)}(ha:QE X a fa)(hl:QO X lo fl)(hu:QO X hi fu):QE X (Expr.Subscript a (Expr.Slice lo hi none p2) pos) (sl fa fl fu):=
 ⟨wz (ha:=ha.h) (hl:=hl.h) (hu:=hu.h)⟩
theorem yu {X:Cx}{a:Expr}{fa:En->Rs T}{pos:Pos}{j:Nat}{p1 p2 p3:Pos}(ha:QE X a fa):QE X (Expr.Subscript a (Expr.Slice none none (some (Expr.UnaryOp UnaryOp.USub (Expr.Constant (Const.int 1) j p1) p2)) p3) pos) (o1 tF fa):=
 ⟨A0 (ha:=ha.h)⟩
theorem bD {X:Cx}{e:Expr}{es:List Expr}{fs:En->Rs (List T)}{pos p:Pos}{x:Str}{id:String}{g:List T->Rs T}(hc:CallT X (Value.builtin id) g)(hm:Cx.mg X x=none)(hv:bootBuiltins x=some (Value.builtin id))(ha:QA X (e::es) fs)(hn:aZ (e::es)=true:=by rfl)(hg:Gl X x:=by rfl)(h1:x≠Str.ofString "__name__":=by decide)(h2:(x == Str.ofString "__debug__")=false:=by decide):QE X (Expr.Call (Expr.Name x p) (e::es) [] pos) (cl g fs):=
 ⟨q_cB (hc:=hc) (hm:=hm) (hv:=hv) (ha:=ha.h) (hn:=hn) (hg:=hg) (h1:=h1) (h2:=h2)⟩
theorem nX {X:Cx}{e:Expr}{es:List Expr}{fs:En->Rs (List T)}{pos p:Pos}{x:Str}{Ty:String}{g:List T->Rs T}(hc:CallT X (Value.type Ty) g)(hm:Cx.mg X x=none)(hv:bootBuiltins x=some (Value.type Ty))(ha:QA X (e::es) fs)(hn:aZ (e::es)=true:=by rfl)(hg:Gl X x:=by rfl)(h1:x≠Str.ofString "__name__":=by decide)(h2:(x == Str.ofString "__debug__")=false:=by decide):QE X (Expr.Call (Expr.Name x p) (e::es) [] pos) (cl g fs):=
 ⟨q_cT (hc:=hc) (hm:=hm) (hv:=hv) (ha:=ha.h) (hn:=hn) (hg:=hg) (h1:=h1) (h2:=h2)⟩
theorem zq_c {X:Cx}{e:Expr}{es:List Expr}{fs:En->Rs (List T)}{pos p:Pos}{x:Str}{n k:Nat}{f:Addr}{fd:FuncData}{ps:List Str}{g:List T->Rs T}(F:Aq (Cx.prog X) (Cx.w X) (Cx.K X) (Cx.mg X) (Cx.base X) k f fd ps n g)(hr:Room k (Cx.A X))(hm:Cx.mg X x=some (Value.ref f))(hk:W.keepIn (Cx.K X) (Value.ref f)=true)(hb:L2.Binds (Cx.K X) fd ps [])(hl:∀(Z:En) (ts:List T),fs Z=Rs.ok ts->List.length ts=n)(ha:QA X (e::es) fs)(hps:List.length ps=n:=by rfl)(hn:aZ (e::es)=true:=by rfl)(hg:Gl X x:=by rfl)(h2:(x == Str.ofString "__debug__")=false:=by decide):QE X (Expr.Call (Expr.Name x p) (e::es) [] pos) (cl g fs):=
 ⟨q_c (F:=F) (hr:=hr) (hm:=hm) (hk:=hk) (hb:=hb) (hl:=hl) (ha:=ha.h) (hps:=hps) (hn:=hn) (hg:=hg) (h2:=h2)⟩
theorem qr {X:Cx}{a:Expr}{fa:En->Rs T}{pos p p2:Pos}{tn:Str}{Ty:String}(hm:Cx.mg X (Str.ofString "isinstance")=none)(hmt:Cx.mg X tn=none)(hv:bootBuiltins tn=some (Value.type Ty))(ha:QE X a fa)(hn:bS a=true:=by rfl)(hg:Gl X (Str.ofString "isinstance"):=by rfl)(hgt:Gl X tn:=by rfl)(h1:tn≠Str.ofString "__name__":=by decide)(h2:(tn == Str.ofString "__debug__")=false:=by decide):QE X (Expr.Call (Expr.Name (Str.ofString "isinstance") p) [a,Expr.Name tn p2] [] pos) (o1 (uP Ty) fa):=
 ⟨q_is (hm:=hm) (hmt:=hmt) (hv:=hv) (ha:=ha.h) (hn:=hn) (hg:=hg) (hgt:=hgt) (h1:=h1) (h2:=h2)⟩
theorem am {X:Cx}{pos:Pos}{x:Str}(i:Nat)(hN:List.Nodup (Cx.N X))(hi:(Cx.N X)[i]? =some x:=by rfl)(hx:L2.Loc (Env.scope (Cx.env X)) x:=by first | exact Or.inl rfl | exact Or.inr rfl)(hf:Cx.fn X x=true\/List.lookup x (Scope.names (Env.scope (Cx.env X)))=some NameKind.local:=by first | exact .inl rfl | exact .inr rfl | assumption):QG X (Expr.Name x pos) (gN i):=
 ⟨ww (i:=i) (hN:=hN) (hi:=hi) (hx:=hx) (hf:=hf)⟩
theorem gn {X:Cx}:Cm X [] uU:=
 ⟨wv ⟩
theorem cG {X:Cx}{e:Expr}{es:List Expr}{g:T->En->Rs En}{gs:List T->En->Rs En}(h1:QG X e g)(h2:Cm X es gs)(hs:List.map (λx=>Prod.snd x) (assignEach (e::es) (Cx.env X))=assign e (Cx.env X)::List.map (λx=>Prod.snd x) (assignEach es (Cx.env X)):=by rfl):Cm X (e::es) (nA g gs):=
 ⟨tI (h1:=h1.h) (h2:=h2.h) (hs:=hs)⟩
theorem iG {X:Cx}{es:List Expr}{pos:Pos}{k n:Nat}{gs:List T->En->Rs En}(hc:Cx.calm X=true)(h:Cm X es gs)(hn:List.length (assignEach es (Cx.env X))=n:=by rfl)(hst:List.findIdx? (λx=>Prod.fst x) (assignEach es (Cx.env X))=none:=by rfl):QG X (Expr.Tuple es k pos) (gT n gs):=
 ⟨yX (hc:=hc) (h:=h.h) (hn:=hn) (hst:=hst)⟩
theorem ca {X:Cx}{a:Expr}{fs:En->Rs (List T)}{pos p:Pos}{tg:Expr}(hm:Cx.mg X (Str.ofString "range")=none)(ha:QA X [a] fs)(hg:Gl X (Str.ofString "range"):=by rfl)(hs:starEach [a] (Cx.env X)= [(false,eval a (Cx.env X))]:=by rfl):QI X tg (Expr.Call (Expr.Name (Str.ofString "range") p) [a] [] pos) (iR fs):=
 ⟨rN (hm:=hm) (ha:=ha.h) (hg:=hg) (hs:=hs)⟩
theorem ci {X:Cx}:Ck X [] bT:=
 ⟨wt ⟩
theorem kt {X:Cx}{c:Expr}{f:En->Rs Bool}(h:QT X c f):Ck X [c] f:=
 ⟨wr (h:=h.h)⟩
theorem fz {X:Cx}{pos:Pos}{elt tg iter:Expr}{ifs:List Expr}{scope:Scope}{N':List Str}{src:List (Option Nat)}{fi:En->Rs (List T)}{tgt:T->En->Rs En}{fc:En->Rs Bool}{fe:En->Rs T}(hc:Cx.calm X=true)(S:LcScope X scope N' src)(hi:QI X tg iter fi)(block:∀(cl:List (Str×Addr)) (C:Addr) (s₀:Shared) (H₀:Hp) (fp:List Addr),QG (cq X scope cl N' C s₀ H₀ fp) tg tgt/\Ck (cq X scope cl N' C s₀ H₀ fp) ifs fc/\QE (cq X scope cl N' C s₀ H₀ fp) elt fe)(hs:∀(x:Value),foldedSetIterable iter (Cx.env X) x=pure x:=by intro _;rfl):QE X (Expr.ListComp elt [{ target:=tg,iter:=iter,ifs:=ifs,is_async:=0 }] scope pos) (eU fi src tgt fc fe):=
 ⟨q_lc (hc:=hc) (S:=S) (hi:=hi.h) (block:=λa1 a2 a3 a4 a5=>⟨(block a1 a2 a3 a4 a5).1.h,(block a1 a2 a3 a4 a5).2.1.h,(block a1 a2 a3 a4 a5).2.2.h⟩) (hs:=hs)⟩
theorem ba {X:Cx}:vI X [] sN:=
 ⟨yP ⟩
theorem ak {X:Cx}{st:Stmt}{cv:List Stmt}{F G:En->Rs Fl}(h1:QS X st F)(h2:vI X cv G):vI X (st::cv) (ar F G):=
 ⟨wn (h1:=h1.h) (h2:=h2.h)⟩
theorem ao {X:Cx}{st:Stmt}{F:En->Rs Fl}(h:QS X st F):vI X [st] F:=
 ⟨yO (h:=h.h)⟩
theorem aw {X:Cx}{a:Expr}{fa:En->Rs T}{pos:Pos}(ha:QE X a fa):QS X (Stmt.Return (some a) pos) (aF fa):=
 ⟨yM (ha:=ha.h)⟩
theorem bO {X:Cx}{c:Expr}{pos:Pos}{f:En->Rs Bool}{A B:List Stmt}{F G:En->Rs Fl}(hc:QT X c f)(ha:vI X A F)(hb:vI X B G):QS X (Stmt.If c A B pos) (dL f F G):=
 ⟨AW (hc:=hc.h) (ha:=ha.h) (hb:=hb.h)⟩
theorem sP {X:Cx}{pos:Pos}{elt tg iter:Expr}{ifs:List Expr}{scope:Scope}{spos py:Pos}{N':List Str}{src:List (Option Nat)}{fi:En->Rs (List T)}{tgt:T->En->Rs En}{fc:En->Rs Bool}{fe:En->Rs T}(i:Nat){y:Str}(hc:Cx.calm X=true)(S:LcScope X scope N' src)(hi:QI X tg iter fi)(block:∀(cl:List (Str×Addr)) (C:Addr) (s₀:Shared) (H₀:Hp) (fp:List Addr),QG (cq X scope cl N' C s₀ H₀ fp) tg tgt/\Ck (cq X scope cl N' C s₀ H₀ fp) ifs fc/\QE (cq X scope cl N' C s₀ H₀ fp) elt fe)(hN:List.Nodup (Cx.N X))(hiy:(Cx.N X)[i]? =some y:=by rfl)(hy:L2.Loc (Env.scope (Cx.env X)) y:=by first | exact Or.inl rfl | exact Or.inr rfl)(hsw:swapsWith (Expr.ListComp elt [{ target:=tg,iter:=iter,ifs:=ifs,is_async:=0 }] scope pos) (some (Expr.Name y py)) (Pos.line spos) (Cx.env X)=pure true:=by rfl)(hf:Cx.fn X y=true\/List.lookup y (Scope.names (Env.scope (Cx.env X)))=some NameKind.local:=by first | exact .inl rfl | exact .inr rfl | assumption)(hs:∀(x:Value),foldedSetIterable iter (Cx.env X) x=pure x:=by intro _;rfl):QS X (Stmt.Assign [Expr.Name y py] (Expr.ListComp elt [{ target:=tg,iter:=iter,ifs:=ifs,is_async:=0 }] scope pos) spos) (bN (eU fi src tgt fc fe) (gN i)):=
 ⟨AV (i:=i) (hc:=hc) (S:=S) (hi:=hi.h) (block:=λa1 a2 a3 a4 a5=>⟨(block a1 a2 a3 a4 a5).1.h,(block a1 a2 a3 a4 a5).2.1.h,(block a1 a2 a3 a4 a5).2.2.h⟩) (hN:=hN) (hiy:=hiy) (hy:=hy) (hsw:=hsw) (hf:=hf) (hs:=hs)⟩
theorem aA {X:Cx}{a:Expr}{fa:En->Rs T}{pos:Pos}{tg:Expr}{g:T->En->Rs En}(ha:QE X a fa)(hg:QG X tg g)(hs:swapsWithSole [tg] a (Pos.line pos) (Cx.env X)=pure false:=by rfl)(hw:swappedStores [tg] a (Cx.env X)=pure none:=by rfl)(h1:List.map (λx=>Prod.snd x) (assignEach [tg] (Cx.env X))= [assign tg (Cx.env X)]:=by rfl):QS X (Stmt.Assign [tg] a pos) (bN fa g):=
 ⟨yT (ha:=ha.h) (hg:=hg.h) (hs:=hs) (hw:=hw) (h1:=h1)⟩
theorem iD {X:Cx}{a:Expr}{fa:En->Rs T}{pos:Pos}(ha:QE X a fa)(hs:swapsWith a none (Pos.line pos) (Cx.env X)=pure false:=by rfl):QS X (Stmt.Expr a pos) (v9 fa):=
 ⟨wm (ha:=ha.h) (hs:=hs)⟩
theorem dh {X:Cx}{pos:Pos}{tg iter:Expr}{body:List Stmt}{fi:En->Rs (List T)}{g:T->En->Rs En}{F:En->Rs Fl}(hc:Cx.calm X=true)(hi:QI X tg iter fi)(hg:QG (Cx.nox X) tg g)(hb:vI (Cx.nox X) body F)(hs:∀(x:Value),foldedSetIterable iter (Cx.env X) x=pure x:=by intro _;rfl):QS X (Stmt.For tg iter body [] pos) (fM fi g F):=
 ⟨yQ (hc:=hc) (hi:=hi.h) (hg:=hg.h) (hb:=hb.h) (hs:=hs)⟩
theorem rB {X:Cx}{pos:Pos}{c:Expr}{body:List Stmt}{fc:En->Rs Bool}{F:En->Rs Fl}(n:Nat)(hc:QT (Cx.nox X) c fc)(hb:vI (Cx.nox X) body F):QS X (Stmt.While c body [] pos) (bi fc F n):=
 ⟨tG (n:=n) (hc:=hc.h) (hb:=hb.h)⟩
theorem cU {X:Cx}{a:Expr}{fa:En->Rs T}{tg:Expr}(ha:QE X a fa):QI X tg a (iS fa):=
 ⟨yW (ha:=ha.h)⟩
theorem gm {X:Cx}{a:Expr}{fs:En->Rs (List T)}{p pos:Pos}{elts:List Expr}{kk:Nat}{tpos:Pos}(hm:Cx.mg X (Str.ofString "enumerate")=none)(ha:QA X [a] fs)(hg:Gl X (Str.ofString "enumerate"):=by rfl)(hs:starEach [a] (Cx.env X)= [(false,eval a (Cx.env X))]:=by rfl):QI X (Expr.Tuple elts kk tpos) (Expr.Call (Expr.Name (Str.ofString "enumerate") p) [a] [] pos) (iE fs):=
 ⟨wu (hm:=hm) (ha:=ha.h) (hg:=hg) (hs:=hs)⟩
theorem gg {X:Cx}{es:List Expr}{pos p2 p3:Pos}{x:Str}(i:Nat){f:En->Rs (List T)}(hN:List.Nodup (Cx.N X))(ha:QA X es f)(hi:(Cx.N X)[i]? =some x:=by rfl)(hx:L2.Loc (Env.scope (Cx.env X)) x:=by first | exact Or.inl rfl | exact Or.inr rfl)(hs:swapsWith (Expr.List es p2) (some (Expr.Name x p3)) (Pos.line pos) (Cx.env X)=pure false:=by rfl)(hf:Cx.fn X x=true\/List.lookup x (Scope.names (Env.scope (Cx.env X)))=some NameKind.local:=by first | exact .inl rfl | exact .inr rfl | assumption):QS X (Stmt.Assign [Expr.Name x p3] (Expr.List es p2) pos) (gx i f):=
 ⟨wj (i:=i) (hN:=hN) (ha:=ha.h) (hi:=hi) (hx:=hx) (hs:=hs) (hf:=hf)⟩
theorem j7 {X:Cx}{a:Expr}{fa:En->Rs T}{pos p2:Pos}{x:Str}(i:Nat){apos cpos:Pos}(ha:QE X a fa)(hN:(Cx.N X)[i]? =some x:=by rfl)(hv:vt (Env.scope (Cx.env X)) x:=by first | exact Or.inl rfl | exact Or.inr (Or.inl rfl) | exact Or.inr (Or.inr rfl))(hn:bS a=true:=by rfl)(hbase:attributeBase (Expr.Name x p2) (Str.ofString "append") (Cx.env X) (eval (Expr.Name x p2) (Cx.env X))=eval (Expr.Name x p2) (Cx.env X):=by rfl)(hline:(Pos.endLine apos == Pos.line cpos)=true:=by rfl)(hd:(x == Str.ofString "__debug__")=false:=by decide)(hcd:(x == Str.ofString "__classdict__")=false:=by decide)(hsw:swapsWith (Expr.Call (Expr.Attribute (Expr.Name x p2) (Str.ofString "append") apos) [a] [] cpos) none (Pos.line pos) (Cx.env X)=pure false:=by rfl):QS X (Stmt.Expr (Expr.Call (Expr.Attribute (Expr.Name x p2) (Str.ofString "append") apos) [a] [] cpos) pos) (jR i fa):=
 ⟨yU (i:=i) (ha:=ha.h) (hN:=hN) (hv:=hv) (hn:=hn) (hbase:=hbase) (hline:=hline) (hd:=hd) (hcd:=hcd) (hsw:=hsw)⟩
theorem mI {X:Cx}{a:Expr}{fa:En->Rs T}{pos p2:Pos}{x:Str}(i:Nat){apos cpos:Pos}(ha:QE X a fa)(hN:(Cx.N X)[i]? =some x:=by rfl)(hv:vt (Env.scope (Cx.env X)) x:=by first | exact Or.inl rfl | exact Or.inr (Or.inl rfl) | exact Or.inr (Or.inr rfl))(hn:bS a=true:=by rfl)(hbase:attributeBase (Expr.Name x p2) (Str.ofString "extend") (Cx.env X) (eval (Expr.Name x p2) (Cx.env X))=eval (Expr.Name x p2) (Cx.env X):=by rfl)(hline:(Pos.endLine apos == Pos.line cpos)=true:=by rfl)(hd:(x == Str.ofString "__debug__")=false:=by decide)(hcd:(x == Str.ofString "__classdict__")=false:=by decide)(hsw:swapsWith (Expr.Call (Expr.Attribute (Expr.Name x p2) (Str.ofString "extend") apos) [a] [] cpos) none (Pos.line pos) (Cx.env X)=pure false:=by rfl):QS X (Stmt.Expr (Expr.Call (Expr.Attribute (Expr.Name x p2) (Str.ofString "extend") apos) [a] [] cpos) pos) (kH i fa):=
 ⟨yR (i:=i) (ha:=ha.h) (hN:=hN) (hv:=hv) (hn:=hn) (hbase:=hbase) (hline:=hline) (hd:=hd) (hcd:=hcd) (hsw:=hsw)⟩
theorem iF {X:Cx}(i:Nat){st:Stmt}{F:En->Rs Fl}(h:QS X st F):QS X st (mU i F):=
 ⟨yS (i:=i) (h:=h.h)⟩
theorem xS {X:Cx}(i:Nat){e:Expr}{f:En->Rs T}(h:QE X e f):QE X e (ln i f):=
 ⟨q_ln (i:=i) (h:=h.h)⟩
theorem yq {X:Cx}(i:Nat){e:Expr}{f:En->Rs Bool}(h:QT X e f):QT X e (zE i f):=
 ⟨AU (i:=i) (h:=h.h)⟩
theorem yr {X:Cx}{pos:Pos}:QS X (Stmt.Continue pos) xY:=
 ⟨AX ⟩
theorem lO {X:Cx}{a:Expr}{es:List Expr}{fs:En->Rs (List T)}{p1 p2 pos pos2:Pos}(hc:Cx.calm X=true)(h1:Cx.mg X (Str.ofString "list")=none)(h2:Cx.mg X (Str.ofString "range")=none)(ha:QA X (a::es) fs)(g1:Gl X (Str.ofString "list"):=by rfl)(g2:Gl X (Str.ofString "range"):=by rfl)(hn:aZ (a::es)=true:=by rfl)(he2:starEach [Expr.Call (Expr.Name (Str.ofString "range") p2) (a::es) [] pos2] (Cx.env X)=(false,eval (Expr.Call (Expr.Name (Str.ofString "range") p2) (a::es) [] pos2) (Cx.env X))::starEach [] (Cx.env X):=by rfl)(hpl2:(List.any (backTo pos (starEach [] (Cx.env X))) λx=>Prod.fst x)=false:=by rfl):QE X (Expr.Call (Expr.Name (Str.ofString "list") p1) [Expr.Call (Expr.Name (Str.ofString "range") p2) (a::es) [] pos2] [] pos) (lR fs):=
 ⟨tJ (hc:=hc) (h1:=h1) (h2:=h2) (ha:=ha.h) (g1:=g1) (g2:=g2) (hn:=hn) (he2:=he2) (hpl2:=hpl2)⟩
theorem lN {X:Cx}{c:Str}{msg:Str}{C:Addr}{bm:List Value}{np p1 cpos pos:Pos}{j:Nat}(O:OX X.K C bm)(hm:X.mg c=some (.ref C))(hc:X.calm=true:=by rfl)(hg:Gl X c:=by rfl)(hd:(c == ("__debug__" : Str))=false:=by decide) :
  QS X (.Raise (some (.Call (.Name c np) [.Constant (.str msg) j p1] [] cpos)) none pos) (wa c):=⟨tH O.own hc hm hg hd⟩
theorem qu {P:Program}{w:World}{K:PySem.W.Frag}{mg:Str->Option Value}{base:Heap}{x qual:Str}{st:Stmt}{f:Addr}{fd:FuncData}{N ps:List Str}{k n:Nat}{F:En->Rs Fl}(Fn:L2.Fun K x qual st f fd)(S:ay N ps (aj st))(hn:ps.length=n)
  (hbody:∀(cdv:Value) (A:Around) (outer:List Env) (s:Shared) (H:Hp) (E:XK),Room k (A.deeper (envOfC qual (aj st) s.heap.objs.size f cdv)) →
   ∀xe,vI ((ju CX0 P w K mg base N qual (aj st) f cdv A outer s H E).wish xe) (cY st) F):Aq P w K mg base (k+1) f fd ps n (val n N.length F):=zZ Fn S hn λcdv A outer s H E hr xe=>(hbody cdv A outer s H E hr xe).h
theorem pG {X:Cx}{a b:Expr}{fa fb:En->Rs T}{pos:Pos}(hu:Around.units (Cx.A X)+1<cLine)(ha:QE X a fa)(hb:QE X b fb)(hs:xP b:=by intro _ _;rfl):QE X (Expr.Subscript a b pos) (o2 jt fa fb):=
 ⟨A8 (hu:=hu) (ha:=ha.h) (hb:=hb.h) (hs:=hs)⟩
theorem qt {X:Cx}{a b:Expr}{fa fb:En->Rs T}{apos cpos:Pos}(hu:Around.units (Cx.A X)+1<cLine)(ha:QE X a fa)(hb:QE X b fb)(hn:bS b=true:=by rfl)(hbase:attributeBase a (Str.ofString "get") (Cx.env X) (eval a (Cx.env X))=eval a (Cx.env X):=by rfl)(hline:(Pos.endLine apos == Pos.line cpos)=true:=by rfl):QE X (Expr.Call (Expr.Attribute a (Str.ofString "get") apos) [b] [] cpos) (oD gf fa fb):=
 ⟨y1 (hu:=hu) (ha:=ha.h) (hb:=hb.h) (hn:=hn) (hbase:=hbase) (hline:=hline)⟩
theorem rC {X:Cx}{a b:Expr}{fa fb:En->Rs T}{apos cpos:Pos}(hu:Around.units (Cx.A X)+61<cLine)(ha:QE X a fa)(hb:QE X b fb)(hn:bS b=true:=by rfl)(hbase:attributeBase a (Str.ofString "index") (Cx.env X) (eval a (Cx.env X))=eval a (Cx.env X):=by rfl)(hline:(Pos.endLine apos == Pos.line cpos)=true:=by rfl):QE X (Expr.Call (Expr.Attribute a (Str.ofString "index") apos) [b] [] cpos) (oL fD fa fb):=
 ⟨tK (hu:=hu) (ha:=ha.h) (hb:=hb.h) (hn:=hn) (hbase:=hbase) (hline:=hline)⟩
theorem sO {X:Cx}{e:Expr}{f:En->Rs T}{x:Str}{p pos p2 p3:Pos}(i:Nat)(hu:Around.units (Cx.A X)+8<cLine)(hc:Cx.calm X=true)(hm:Cx.mg X (Str.ofString "dict")=none)(hN:List.Nodup (Cx.N X))(ha:QE X e f)(hst:bS e=true:=by rfl)(hg:Gl X (Str.ofString "dict"):=by rfl)(hi:(Cx.N X)[i]? =some x:=by rfl)(hx:L2.Loc (Env.scope (Cx.env X)) x:=by first | exact Or.inl rfl | exact Or.inr rfl)(hs:swapsWith (Expr.Call (Expr.Name (Str.ofString "dict") p) [e] [] p2) (some (Expr.Name x p3)) (Pos.line pos) (Cx.env X)=pure false:=by rfl)(hf:Cx.fn X x=true\/List.lookup x (Scope.names (Env.scope (Cx.env X)))=some NameKind.local:=by first | exact .inl rfl | exact .inr rfl | assumption):QS X (Stmt.Assign [Expr.Name x p3] (Expr.Call (Expr.Name (Str.ofString "dict") p) [e] [] p2) pos) (lV i f):=
 ⟨wl (i:=i) (hu:=hu) (hc:=hc) (hm:=hm) (hN:=hN) (ha:=ha.h) (hst:=hst) (hg:=hg) (hi:=hi) (hx:=hx) (hs:=hs) (hf:=hf)⟩
theorem vK {X:Cx}{b c:Expr}{fb fc:En->Rs T}{pos p2 p3:Pos}{x:Str}(i:Nat)(hu:Around.units (Cx.A X)+1<cLine)(hb:QE X b fb)(hc:QE X c fc)(hN:(Cx.N X)[i]? =some x:=by rfl)(hv:vt (Env.scope (Cx.env X)) x:=by first | exact Or.inl rfl | exact Or.inr (Or.inl rfl) | exact Or.inr (Or.inr rfl))(hd:(x == Str.ofString "__debug__")=false:=by decide)(hcd:(x == Str.ofString "__classdict__")=false:=by decide)(hs:swapsWith c (some (Expr.Subscript (Expr.Name x p2) b p3)) (Pos.line pos) (Cx.env X)=pure false:=by rfl):QS X (Stmt.Assign [Expr.Subscript (Expr.Name x p2) b p3] c pos) (rM i fb fc):=
 ⟨yN (i:=i) (hu:=hu) (hb:=hb.h) (hc:=hc.h) (hN:=hN) (hv:=hv) (hd:=hd) (hcd:=hcd) (hs:=hs)⟩
end Tr
namespace Tr
open PySem PySem.Spec PyProof.Rows L2 PySem.W
def uY (h:Heap):Frag:=(List.range h.objs.size).filterMap λa=>(h.get? a).map λo=>(a,o)
theorem uX (h:Heap):(uY h).In h:=by
 have key:∀(l:List Nat) (a:Addr) (o:Obj),(l.filterMap λa=>(h.get? a).map λo=>(a,o)).lookup a=some o->h.get? a=some o:=by
  intro l
  induction l with
  | nil=>intro a o e;cases e
  | cons b r ih=>
   intro a o e
   cases hb:h.get? b with
   | none=>rw[List.filterMap_cons_none (by rw[hb];rfl)]at e;exact ih a o e
   | some ob=>
    rw[List.filterMap_cons_some (b:=(b,ob)) (by rw[hb];rfl),List.lookup_cons]at e
    cases q:a == b with
    | true=>rw[q]at e;cases e;rw[eq_of_beq q];exact hb
    | false=>rw[q]at e;exact ih a o e
 exact λa o e=>key _ a o e
def obF (K:Frag)(n:Str):Option (Str×Str×Arguments×FuncBody×Scope×Addr×List (Str×Addr)×Value×Addr×Bool×Bool):=match nsIn K mainGlobals n with
 | some (some (.ref f))=>match K.lookup f with
  | some ⟨_,_,.func d,_⟩=>some (d.name,d.qualname,d.params,d.body,d.scope,d.globals,d.closure,d.defaults,d.builtins,codeIn K d.code n,keepIn K (.ref f))
  | _=>none
 | _=>none
def exF (n:Str)(st:Stmt):Option (Str×Str×Arguments×FuncBody×Scope×Addr×List (Str×Addr)×Value×Addr×Bool×Bool):=
 some (n,n,gb st,.stmts (cY st),aj st,mainGlobals,[],.none,builtinsNs,true,true)
theorem yi {K:Frag}{n:Str}{st:Stmt}(e:obF K n=exF n st):∃f fd,nsIn K mainGlobals n=some (some (.ref f))/\L2.Fun K n n st f fd:=by
 unfold obF at e
 split at e
 ·rename_i f hf
  split at e
  ·rename_i oc od d sl hl
   cases d;unfold exF at e;simp only[Option.some.injEq,Prod.mk.injEq]at e;obtain⟨h1,h2,h3,h4,h5,h6,h7,h8,h9,h10,h11⟩:=e;subst h1 h2 h3 h4 h5 h6 h7 h8 h9;exact⟨f,_,hf,zX hl h10 h11⟩
  ·cases e
 ·cases e
def Bo (K:Frag)(N:Addr)(n:Str):Bool:=match nsIn K N n with | some none=>true | _=>false
theorem kU {K:Frag}{N:Addr}{n:Str}(e:Bo K N n=true):nsIn K N n=some none:=by
 unfold Bo at e
 split at e
 ·assumption
 ·cases e
def Cf (K:Frag)(n:Str):Option Int:=match nsIn K mainGlobals n with | some (some (.int i _))=>some i | _=>none
theorem zB {K:Frag}{n:Str}{i:Int}(e:Cf K n=some i):∃t,nsIn K mainGlobals n=some (some (.int i t)):=by
 unfold Cf at e
 split at e
 ·rename_i i' t h;cases e;exact⟨t,h⟩
 ·cases e
def qw:List Value->Bool
 | [.type a,.type b,.type c,.type d] =>a == "ValueError" &&b == "Exception" &&c == "BaseException" &&d == "object"
 | _=>false
theorem ku:∀{l:List Value},qw l=true->l=rn:=by
 intro l e;unfold qw at e
 split at e
 ·simp only[Bool.and_eq_true,beq_iff_eq]at e
  obtain⟨⟨⟨h1,h2⟩,h3⟩,h4⟩:=e;subst h1 h2 h3 h4;rfl
 ·cases e
def sV (D:Option Addr)(m:List Value):Bool:=match D with
 | none=>qw m
 | some D=>match m with
  | .ref E::m=>E == D&&qw m
  | _=>false
def w6 (K:Frag)(D:Option Addr)(n:Str):Option Addr:=match nsIn K mainGlobals n with
 | some (some (.ref C))=>match K.lookup C with
  | some ⟨.type t,_,.cls c,⟨[_,_,_,_,some (.builtin b),_]⟩⟩=>match c.mro,K.lookup c.ns with
   | .ref E::m,some ⟨_,_,.dict es _,_⟩=>
    if (t == "type" &&b == "ValueError.__new__" && !c.hasDel&&(es.toList.all λe=>tf e.key)&&calmNames.all (Bo K c.ns)&&E == C&&sV D m)=true then some C else none
   | _,_=>none
  | _=>none
 | _=>none
theorem jk {K:Frag}{D:Option Addr}{n:Str}{C:Addr}(e:w6 K D n=some C):nsIn K mainGlobals n=some (some (.ref C)) ∧
  ∃nm q N bs bm hd sn su ab co dd k0 k1 k2 k3 k5,sV D bm=true/\K.lookup C=some (excClassObj nm q C N bs bm hd sn su ab co dd k0 k1 k2 k3 k5 "ValueError.__new__")/\∀h:Heap,K.In h->∃mN,h.Ns N mN/\∀n∈calmNames,mN n=none:=by
 unfold w6 at e
 split at e
 ·rename_i C' hC
  split at e
  ·rename_i t dd c k0 k1 k2 k3 b k5 hl
   split at e
   ·rename_i E m ob oe es ep oz hm hN
    split at e
    ·rename_i hq
     cases e;simp only[Bool.and_eq_true,beq_iff_eq,Bool.not_eq_true']at hq;obtain⟨⟨⟨⟨⟨⟨h1,h2⟩,h3⟩,h4⟩,h5⟩,h6⟩,h7⟩:=hq
     have z:=List.all_eq_true.mp h5;refine⟨hC,c.name,c.qualname,c.ns,c.bases,m,c.hasDict,c.slotNames,c.subclasses,c.abstract,c.collection,dd,k0,k1,k2,k3,k5,h7,?_,Bp hN h4 (kU (z _ (.head _))) (kU (z _ (.tail _ (.head _)))) (kU (z _ (.tail _ (.tail _ (.head _))))) (kU (z _ (.tail _ (.tail _ (.tail _ (.head _))))))⟩
     rw[hl];cases c;simp only at hm h3;subst h1 h2 hm h3 h6
     rfl
    ·cases e
   ·cases e
  ·cases e
 ·cases e
theorem ox0 {K:Frag}{C:Addr}{n:Str}(e:w6 K none n=some C):OX K C rn:=by
 obtain⟨_,_,_,_,_,_,_,_,_,_,_,_,_,_,_,_,_,hu,hl,hn⟩:=jk e;cases ku hu;exact wV hl hn
theorem ox1 {K:Frag}{C D:Addr}{n m:Str}(e:w6 K (some D) n=some C)(d:w6 K none m=some D):OX K C (.ref D::rn):=by
 obtain⟨_,_,_,_,_,bm,_,_,_,_,_,_,_,_,_,_,_,hu,hl,hn⟩:=jk e;obtain⟨_,_,_,_,_,_,_,_,_,_,_,_,_,_,_,_,_,hu',hl',hn'⟩:=jk d;cases ku hu';unfold sV at hu;simp only at hu
 split at hu
 ·rw[Bool.and_eq_true]at hu
  cases eq_of_beq hu.1;cases ku hu.2;exact ub hl hn hl' hn'
 ·cases hu
def qj {α:Type}:List (Option α)->Option (List α)
 | [] =>some []
 | none::_=>none
 | some a::r=>match qj r with | some l=>some (a::l) | none=>none
theorem mF {α:Type}{o:Option α}{r:List (Option α)}{l:List α}(e:qj (o::r)=some l):∃a l',o=some a/\l=a::l'/\qj r=some l':=by
 cases o with
 | none=>cases e
 | some a=>
  unfold qj at e
  split at e
  ·rename_i l' h;cases e;exact⟨a,l',rfl,rfl,h⟩
  ·cases e
theorem vq {α:Type}{l:List α}(e:qj ([]:List (Option α))=some l):l= []:=by cases e;rfl
def nj:List Addr->Bool
 | [] =>true
 | a::r=>(r.all λb=> !(a == b))&&nj r
theorem lY:∀{l:List Addr},nj l=true->l.Nodup
 | [],_=> .nil
 | a::r,h=>by
  unfold nj at h;rw[Bool.and_eq_true]at h;refine List.nodup_cons.mpr ⟨λhm=> ?_,lY h.2⟩
  have:=List.all_eq_true.mp h.1 a hm
  simp at this
def Ce (K:Frag):List Str->Bool
 | [] =>true
 | m::es=>match w6 K none m with
  | some D=>match qj (es.map (w6 K (some D)))with | some l=>nj (l++ [D]) | none=>false
  | none=>false
theorem zA {K:Frag}{m:Str}{es:List Str}(e:Ce K (m::es)=true):∃D l,w6 K none m=some D/\qj (es.map (w6 K (some D)))=some l/\(l++ [D]).Nodup:=by
 rw[Ce]at e
 split at e
 ·rename_i D hD
  split at e
  ·rename_i l hl;exact⟨D,l,hD,hl,lY e⟩
  ·cases e
 ·cases e
structure sJ where
 tab:List (Str×Nat)
 zs:List Str
 cs:List (Str×Int)
 es:List Str
def lL (S:sJ)(K:Frag):=(S.tab.map (λp=>obF K p.1),S.zs.all (Bo K mainGlobals),S.cs.map (λc=>Cf K c.1),Ce K S.es)
def lF (S:sJ)(top:Nat->Stmt):=(S.tab.map (λp=>exF p.1 (top p.2)),true,S.cs.map (λc=>some c.2),true)
def hookK (S:sJ)(top:Nat->Stmt):Hook:=
 ⟨_,λs=>lL S (uY s.heap),λ_=>lF S top,λ_ h=> ∃K:Frag,K.In h/\lL S K=lF S top,λ_ s e=>⟨_,uX s.heap,e⟩,λ_ _ _ ⟨K,a,b⟩ k=>⟨K,a.keeps k,b⟩⟩
section
variable {S:sJ}{top:Nat->Stmt}{K:Frag}{h:Heap}{mg:Str->Option Value}
theorem nt {α β:Type}{f g:α->β}:∀{l:List α} (j:Nat) {a:α},l.map f=l.map g->l[j]? =some a->f a=g a
 | [],_,_,_,q=>by cases q
 | b::l,0,a,e,q=>by cases q;exact(List.cons.inj e).1
 | b::l,j+1,a,e,q=>nt (l:=l) j (List.cons.inj e).2 q
theorem cp (j:Nat){n:Str}{i:Nat}{ps:List Str}(X:K.In h)(G:h.Ns mainGlobals mg)(e:lL S K=lF S top)(q:S.tab[j]? =some (n,i))
  (hb:∀(kV doc pm:Value) (an:Option Addr) (cdv ct:Value) (us:List Value),us.length=ps.length->bindArgs (fnOf n n (gb (top i)) (cY (top i)) (aj (top i)) .none kV doc pm an cdv ct) ⟨us,[]⟩=pure (ps.zip us)) :
  ∃f fd,Fn K mg n (top i) ps f fd:=by
 obtain⟨f,fd,h1,h2⟩:=yi (nt j (congrArg (·.1) e) q)
 exact⟨f,fd,h2,h2.binds hb,mg_of X G h1⟩
theorem BA (j:Nat){n:Str}{i:Nat}{x:Str}{fa:Addr}(X:K.In h)(G:h.Ns mainGlobals mg)(e:lL S K=lF S top)(q:S.tab[j]? =some (n,i))(hfa:mg n=some (.ref fa))
  (hb:∀(kV doc pm:Value) (an:Option Addr) (cdv ct u:Value),bindArgs (fnOf n n (gb (top i)) (cY (top i)) (aj (top i)) .none kV doc pm an cdv ct) ⟨[u],[]⟩=pure [(x,u)]) :
  ∃fd,Fn K mg n (top i) [x] fa fd/\∀(s:Shared) (u:Value),BindsTo s fd ⟨[u],[]⟩ [(x,u)]:=by
 obtain⟨f,fd,h1,h2⟩:=yi (nt j (congrArg (·.1) e) q)
 have z:=hfa.symm.trans (mg_of X G h1);cases z
 have hh:=h2;obtain⟨oc,od,kV,doc,pm,an,cdv,ct,osl,rfl,lk,hcd⟩:=hh.ex;exact⟨_,⟨h2,.all λus hl=>match us,hl with | [u],_=>hb kV doc pm an cdv ct u,mg_of X G h1⟩,λs u=> .of_eq (hb kV doc pm an cdv ct u)⟩
theorem dN (j:Nat){n:Str}(X:K.In h)(G:h.Ns mainGlobals mg)(e:lL S K=lF S top)(q:S.zs[j]? =some n):mg n=none:=
 mg_none_of X G (kU (List.all_eq_true.mp (congrArg (·.2.1) e:S.zs.all (Bo K mainGlobals)=true) n (List.mem_of_getElem? q)))
theorem mf (j:Nat){n:Str}{i:Int}(X:K.In h)(G:h.Ns mainGlobals mg)(e:lL S K=lF S top)(q:S.cs[j]? =some (n,i)):∃t,mg n=some (.int i t):=by
 obtain⟨t,ht⟩:=zB (nt (f:=λc=>Cf K c.1) (g:=λc=>some c.2) j (congrArg (·.2.2.1) e) q)
 exact⟨t,mg_of X G ht⟩
theorem BF (e:lL S K=lF S top):Ce K S.es=true:=congrArg (·.2.2.2) e
end
theorem left_of {p q:Program}{loose:List Str}{Xt:Shared->Bool}{α:Type}{Yf:Shared->α}{Ya:World->α}{N:Nat}{g0:Bool}
  (e:opening p=plainProg p.main.scope.names) (hN:Nat.ble 600 N=true) (f:∀s,fenceModules? p s=some s)
  (h:∀(w:World) (os:OsState),(topFrom treeTable p w N ⟨boot_heap w.params,⟨[]⟩,boot_drawn,boot_toks,os⟩).map (λs=>(openSeen q loose (importedModules p.main.body) Xt g0 s,Yf s))=some (openGood q loose,Ya w)) :
  LeftO p q loose Xt Yf Ya N g0:=λw=>by
 obtain⟨⟨h0,gs,d,k,os⟩,e1,e2⟩:=Option.map_eq_some_iff.mp (boot_open e hN f w);simp only[Prod.mk.injEq]at e2;obtain⟨rfl,rfl,rfl,rfl⟩:=e2;unfold openEnds;rw[e1];exact h w os
theorem walk_k {l:OpenLaw}{n k:Nat}{q:Program}{loose:List Str}{XP:(Str->Option Value)->Heap->Prop}{d:DefRec}{S:sJ}{top:Nat->Stmt}{CX:vJ}{sp:Frag->Sp}{x:Str}
  (hn:l.most=some n) (hn2:n<=sizeLine) (hdf:d.params.defaults= []) (hr:Room k callerA)
  (F:∀(w:World) (K:Frag) (mg:Str->Option Value) (fa:Addr) (h:Heap),K.In h->lL S K=lF S top->h.Ns mainGlobals mg->mg d.name=some (.ref fa) →
   ∃fd:FuncData,(∀(s:Shared) (u:Value),BindsTo s fd ⟨[u],[]⟩ [(x,u)])/\∀base:Heap,K.In base->base.Ns mainGlobals mg->nQ l.prog w K mg base CX k fa fd [x] (sp K))
  (hsp:∀(K:Frag) (H:Hp) (a:Addr) (ns:List Int),ns.length<=n->Ap H->SqL K H a (ns.map V.int)->sp K [.ref a] H (λv _=>v= .bl true) λ_ _ _=>False)
  (hCX:∀(H:Hp) (s:Shared) (e:Value) (s':Shared),CX [] H s (λ_ _ _=>False) e s'->False) :
  WalkO q loose XP (hookK S top).says l.row.toRowW d [] (λf vs=>PySem.call f vs):=by
 refine Att.attach_call hn hdf λw s₀ s₁ mg mb fa o pm cd doc a vs ns G Y ho hd hcd hmg hobj hints hlen hg=> ?_
 obtain⟨K,KX,e⟩:=Y;obtain⟨fd,hb,hF⟩:=F w K mg fa _ KX e G.T.g hmg;exact uD KX G.T.g G.T.b G.T.builtins G.T.nolimit hg hobj hints (Nat.le_trans hlen hn2) hr hF hb (λH hO hS=>hsp K H a ns hlen hO hS) λH e s'=>hCX H s₁ e s'
structure Cl (P:Program)(w:World)(K:Frag)(mg:Str->Option Value)(base:Heap)(k:Nat)(x:Str)(n:Nat)(m:List T->Rs T):Prop where
 ex:∃f fd ps,mg x=some (.ref f)/\keepIn K (.ref f)=true/\Binds K fd ps []/\ps.length=n/\Aq P w K mg base k f fd ps n m
abbrev fJ (K:Frag)(mg:Str->Option Value)(x:Str)(st:Stmt)(ps:List Str):Prop:=∃f fd,Fn K mg x st ps f fd
section
variable {P:Program}{w:World}{K:Frag}{mg:Str->Option Value}{base:Heap}{x:Str}{st:Stmt}{N ps:List Str}{k n:Nat}{F:En->Rs Fl}
theorem aX (H:fJ K mg x st ps)(S:ay N ps (aj st))(hn:ps.length=n)
  (hbody:∀(f:Addr) (cdv:Value) (A:Around) (outer:List Env) (s:Shared) (H:Hp) (E:XK),Room k (A.deeper (envOfC x (aj st) s.heap.objs.size f cdv)) →
   ∀xe,vI ((ju CX0 P w K mg base N x (aj st) f cdv A outer s H E).wish xe) (cY st) F):Cl P w K mg base (k+1) x n (val n N.length F):=by
 obtain⟨f,fd,h⟩:=H;exact⟨f,fd,ps,h.mg,h.fn.kp,h.bd,hn,qu h.fn S hn (hbody f)⟩
end
section
variable {X:Cx}{e:Expr}{es:List Expr}{fs:En->Rs (List T)}{pos p:Pos}{x:Str}{n k k':Nat}{g:List T->Rs T}
theorem aL (c:Cl X.prog X.w X.K X.mg X.base k x n g)(hr:Room k' X.A)(ha:QA X (e::es) fs)(hk:k<=k':=by decide)(hl:∀(Z:En) (ts:List T),fs Z= .ok ts->ts.length=n:=by repeat first | exact B2 | refine B1 ?_)
  (hn:aZ (e::es)=true:=by rfl) (hg:Gl X x:=by rfl) (h2:(x == Str.ofString "__debug__")=false:=by decide):QE X (.Call (.Name x p) (e::es) [] pos) (cl g fs):=by
 obtain⟨f,fd,ps,h1,h3,h4,h5,h6⟩:=c.ex;exact zq_c h6 (hr.mono hk) h1 h3 h4 hl ha h5 hn hg h2
theorem nV {i:Int}(h:∃t,X.mg x=some (.int i t))(hg:Gl X x:=by rfl)(hd:(x == Str.ofString "__debug__")=false:=by decide):QE X (.Name x pos) (cn (.int i)):=by
 obtain⟨t,h⟩:=h;exact vL h ⟨_,rfl⟩ hg hd
end
end Tr
namespace Tr
open PySem PySem.Spec PyProof.Rows L2
theorem vM {X:Cx}{a b:Expr}{fs:En->Rs (List T)}{p p1 p2 pos:Pos}(hu:X.A.units+8<cLine)(hc:X.calm=true)(hm:X.mg "dict" =none)(hmz:X.mg "zip" =none)(ha:QA X [a,b] fs)(hst:aZ [a,b] =true:=by rfl)(hg:Gl X "dict":=by rfl)(hgz:Gl X "zip":=by rfl) :
  QE X (.Call (.Name "dict" p) [.Call (.Name "zip" p1) [a,b] [] p2] [] pos) (cl BY fs):=⟨y0 hu hc hm hmz ha.h hst hg hgz⟩
end Tr
namespace G
open PySem PySem.Spec PyProof.Rows L2 Tr
def top (i:Nat):Stmt:=PySem.Challenge.pw_farclocks_k23_whole_one_or_the_other.main.body.getD i (.Pass ⟨0,0,0,0⟩)
structure Bl (mg:Str->Option Value):Prop where
 b_all:mg "all" =none
 b_bool:mg "bool" =none
 b_dict:mg "dict" =none
 b_enumerate:mg "enumerate" =none
 b_int:mg "int" =none
 b_isinstance:mg "isinstance" =none
 b_len:mg "len" =none
 b_list:mg "list" =none
 b_min:mg "min" =none
 b_range:mg "range" =none
 b_sum:mg "sum" =none
 b_tuple:mg "tuple" =none
 b_zip:mg "zip" =none
structure Cs (mg:Str->Option Value):Prop where
 MOST_CLOCKS:∃t,mg "MOST_CLOCKS" =some (.int 4 t)
 MOST_LETTERS:∃t,mg "MOST_LETTERS" =some (.int 8 t)
 MOST_READINGS:∃t,mg "MOST_READINGS" =some (.int 4 t)
 LAST_READING:∃t,mg "LAST_READING" =some (.int 99 t)
 SLOWEST:∃t,mg "SLOWEST" =some (.int 9 t)
 LONGEST:∃t,mg "LONGEST" =some (.int 999 t)
theorem nK:bootBuiltins "bool" =some (.type "bool"):=by decide+kernel
theorem jP:bootBuiltins "int" =some (.type "int"):=by decide+kernel
theorem nJ:bootBuiltins "list" =some (.type "list"):=by decide+kernel
theorem c8:bootBuiltins "tuple" =some (.type "tuple"):=by decide+kernel
structure Xs (K:PySem.W.Frag)(mg:Str->Option Value)(C_NoRecord C_NoNumber C_ClockError:Addr):Prop where
 m_NoRecord:mg "NoRecord" =some (.ref C_NoRecord)
 m_NoNumber:mg "NoNumber" =some (.ref C_NoNumber)
 m_ClockError:mg "ClockError" =some (.ref C_ClockError)
 o_NoRecord:OX K C_NoRecord (.ref C_ClockError::rn)
 o_NoNumber:OX K C_NoNumber (.ref C_ClockError::rn)
 o_ClockError:OX K C_ClockError rn
 d:[C_NoRecord,C_NoNumber,C_ClockError].Nodup
end G
namespace G
open PySem Tr
def eC:En->Rs Fl:=
 (ar (dL (tb (o2 jM (vr 0) (c7 ah))) (aF (o2 bL (cn (.int 7)) (vr 1))) sN) (aF (o2 aJ (o2 aN (vr 0) (o2 hY (vr 1) (cl bx (ac (vr 0) ah)))) (o2 bL (cn (.int 6553)) (o2 i9 (vr 1) (cl bx (ac (vr 0) ah)))))))
def d8:List T->Rs T:=val 2 2 eC
def dG:En->Rs Fl:=
 (ar (bN (o2 hY (o2 aJ (o2 bL (o2 hY (cl d8 (ac (vr 0) (ac (vr 1) ah))) (cn (.int 2147483563))) (cn (.int 69069))) (o2 bL (cn (.int 104723)) (o2 aJ (vr 1) (cn (.int 1))))) (cn (.int 2147483563))) (gN 3)) (ar (bN (o2 hY (o2 aJ (o2 bL (vr 3) (vr 3)) (o2 i9 (vr 3) (cn (.int 3)))) (cn (.int 2147483399))) (gN 3)) (aF (o2 hY (o2 i9 (o2 hY (o2 aJ (o2 bL (vr 3) (vr 3)) (o2 i9 (vr 3) (cn (.int 7)))) (cn (.int 2147483647))) (cn (.int 11))) (vr 2)))))
def au:List T->Rs T:=val 3 4 dG
def dY:En->Rs Fl:=
 (ar (bN (c7 ah) (gN 1)) (ar (fM (iE (ac (vr 0) ah)) (gT 2 (nA (gN 2) (nA (gN 3) uU))) (bN (o2 aJ (vr 1) (eU (iR (ac (cl bx (ac (o2 aN (vr 3) (cn (.int 2))) ah)) ah)) [none,some 2] (gN 0) bT (bq (ac (vr 1) (ac (vr 0) ah))))) (gN 1))) (aF (vr 1))))
def c6:List T->Rs T:=val 1 4 dY
def ce:En->Rs Fl:=
 (ar (bN (cl c6 (ac (vr 2) ah)) (gN 3)) (ar (dL (tb (o2 zD (cl bx (ac (vr 3) ah)) (cn (.int 2)))) (aF (cn .non)) sN) (ar (bN (cl au (ac (vr 0) (ac (vr 1) (ac (cl bx (ac (vr 3) ah)) ah)))) (gN 4)) (ar (bN (o2 hY (o2 aJ (o2 aJ (vr 4) (cn (.int 1))) (cl au (ac (vr 0) (ac (o2 aJ (vr 1) (cn (.int 1))) (ac (o2 eF (cl bx (ac (vr 3) ah)) (cn (.int 1))) ah))))) (cl bx (ac (vr 3) ah))) (gN 5)) (ar (bN (cl au (ac (vr 0) (ac (o2 aJ (vr 1) (cn (.int 2))) (ac (cn (.int 8)) ah)))) (gN 6)) (ar (bN (Au (tb (o2 jM (cl au (ac (vr 0) (ac (o2 aJ (vr 1) (cn (.int 3))) (ac (cn (.int 3)) ah)))) (cn (.int 0)))) (cn .non) (o2 aJ (vr 6) (cl au (ac (vr 0) (ac (o2 aJ (vr 1) (cn (.int 4))) (ac (cn (.int 9)) ah)))))) (gN 7)) (aF (bq (ac (o2 aN (vr 3) (vr 4)) (ac (o2 aN (vr 3) (vr 5)) (ac (vr 6) (ac (vr 7) ah))))))))))))
def cI:List T->Rs T:=val 3 8 ce
def dH:En->Rs Fl:=
 (ar (bN (o2 aJ (cn (.int 1)) (cl au (ac (vr 0) (ac (vr 1) (ac (cn (.int 3)) ah))))) (gN 2)) (ar (bN (bq (ac (cl au (ac (vr 0) (ac (o2 aJ (vr 1) (cn (.int 2))) (ac (cn (.int 6)) ah)))) ah)) (gN 3)) (ar (fM (iR (ac (cl au (ac (vr 0) (ac (o2 aJ (vr 1) (cn (.int 1))) (ac (cn (.int 3)) ah)))) ah)) (gN 4) (bN (o2 aJ (vr 3) (bq (ac (o2 aJ (o2 aJ (o2 aN (vr 3) (o1 oU (cn (.int 1)))) (cn (.int 1))) (cl au (ac (vr 0) (ac (o2 aJ (o2 aJ (vr 1) (cn (.int 3))) (vr 4)) (ac (cn (.int 5)) ah))))) ah))) (gN 3))) (aF (bq (ac (vr 2) (ac (o2 aJ (vr 2) (cl au (ac (vr 0) (ac (o2 aJ (vr 1) (cn (.int 6))) (ac (cn (.int 3)) ah))))) (ac (vr 3) ah))))))))
def bW:List T->Rs T:=val 2 5 dH
def dg:En->Rs Fl:=
 (ar (bN (cl fW (ac (eU (iR (ac (o2 aJ (cn (.int 1)) (cl au (ac (vr 0) (ac (vr 1) (ac (cn (.int 3)) ah))))) ah)) [none,some 0,some 1] (gN 0) bT (cl bW (ac (vr 1) (ac (o2 aJ (o2 aJ (vr 2) (cn (.int 1))) (o2 bL (cn (.int 8)) (vr 0))) ah)))) ah)) (gN 3)) (ar (bN (c7 ah) (gN 4)) (ar (fM (iR (ac (cl au (ac (vr 0) (ac (o2 aJ (vr 1) (cn (.int 30))) (ac (o2 aJ (vr 2) (cn (.int 1))) ah)))) ah)) (gN 5) (ar (bN (cl cI (ac (vr 0) (ac (o2 aJ (o2 aJ (vr 1) (cn (.int 31))) (o2 bL (cn (.int 6)) (vr 5))) (ac (vr 3) ah)))) (gN 6)) (bN (o2 aJ (vr 4) (o2 bL (c7 (ac (vr 6) ah)) (cl uQ (ac (o2 d6 (vr 6) (cn .non)) ah)))) (gN 4)))) (aF (bq (ac (vr 3) (ac (cl fW (ac (vr 4) ah)) ah)))))))
def dW:List T->Rs T:=val 3 7 dg
def hV:En->Rs Fl:=
 (aF (bJ (o1 (uP "tuple") (vr 0)) (ch zG zG (vr 1) (cl bx (ac (vr 0) ah)) (vr 2))))
def aE:List T->Rs T:=val 3 3 hV
def iC:En->Rs Fl:=
 (aF (bJ (o1 (uP "int") (vr 0)) (o1 w9 (o1 (uP "bool") (vr 0)))))
def dM:List T->Rs T:=val 1 1 iC
def eg:En->Rs Fl:=
 (aF (bJ (cl dM (ac (vr 0) ah)) (ch zG zG (vr 1) (vr 0) (vr 2))))
def aH:List T->Rs T:=val 3 3 eg
def fU:En->Rs Fl:=
 (aF (bJ (cl aH (ac (vr 0) (ac (cn (.int 1)) (ac (cn (.int 9)) ah)))) (cl aH (ac (vr 1) (ac (vr 0) (ac (cn (.int 9)) ah))))))
def eX:List T->Rs T:=val 2 2 fU
def kr:En->Rs Fl:=
 (aF (cl j5 (ac (eU (iR (ac (o2 eF (cl bx (ac (vr 0) ah)) (cn (.int 1))) ah)) [none,some 0] (gN 0) bT (o2 zD (o2 aN (vr 1) (vr 0)) (o2 aN (vr 1) (o2 aJ (vr 0) (cn (.int 1)))))) ah)))
def g7:List T->Rs T:=val 1 1 kr
def cu:En->Rs Fl:=
 (ar (dL (cD (tb (cl aE (ac (vr 0) (ac (cn (.int 1)) (ac (cn (.int 4)) ah)))))) (aF (cn (.bl false))) sN) (aF (bJ (cl j5 (ac (eU (iS (vr 0)) [none] (gN 0) bT (cl aH (ac (vr 0) (ac (cn (.int 0)) (ac (cn (.int 99)) ah))))) ah)) (cl g7 (ac (vr 0) ah)))))
def bn:List T->Rs T:=val 1 1 cu
def dR:En->Rs Fl:=
 (aF (bJ (cl aE (ac (vr 0) (ac (cn (.int 3)) (ac (cn (.int 3)) ah)))) (bJ (cl eX (ac (o2 aN (vr 0) (cn (.int 0))) (ac (o2 aN (vr 0) (cn (.int 1))) ah))) (cl bn (ac (o2 aN (vr 0) (cn (.int 2))) ah)))))
def cR:List T->Rs T:=val 1 1 dR
def dF:En->Rs Fl:=
 (aF (bJ (cl aE (ac (vr 0) (ac (cn (.int 1)) (ac (cn (.int 4)) ah)))) (cl j5 (ac (eU (iS (vr 0)) [none] (gN 0) bT (cl cR (ac (vr 0) ah))) ah))))
def cX:List T->Rs T:=val 1 1 dF
def dP:En->Rs Fl:=
 (ar (dL (jI (cD (tb (cl aE (ac (vr 1) (ac (cn (.int 2)) (ac (cn (.int 2)) ah)))))) (cD (tb (cl aH (ac (o2 aN (vr 1) (cn (.int 0))) (ac (cn (.int 0)) (ac (o2 eF (cl bx (ac (vr 0) ah)) (cn (.int 1))) ah))))))) (aF (cn (.bl false))) sN) (aF (cl aH (ac (o2 aN (vr 1) (cn (.int 1))) (ac (cn (.int 0)) (ac (o2 eF (cl bx (ac (o2 aN (o2 aN (vr 0) (o2 aN (vr 1) (cn (.int 0)))) (cn (.int 2))) ah)) (cn (.int 1))) ah))))))
def cQ:List T->Rs T:=val 2 2 dP
def dQ:En->Rs Fl:=
 (aF (bJ (cl aH (ac (vr 0) (ac (cn (.int 0)) (ac (cn (.int 999)) ah)))) (vG (o2 eV (vr 1) (cn .non)) (cl aH (ac (vr 1) (ac (vr 0) (ac (cn (.int 999)) ah)))))))
def dk:List T->Rs T:=val 2 2 dQ
def cx:En->Rs Fl:=
 (ar (dL (jI (cD (tb (cl aE (ac (vr 1) (ac (cn (.int 4)) (ac (cn (.int 4)) ah)))))) (cD (tb (cl dk (ac (o2 aN (vr 1) (cn (.int 2))) (ac (o2 aN (vr 1) (cn (.int 3))) ah)))))) (aF (cn (.bl false))) sN) (aF (bJ (cl cQ (ac (vr 0) (ac (o2 aN (vr 1) (cn (.int 0))) ah))) (bJ (cl cQ (ac (vr 0) (ac (o2 aN (vr 1) (cn (.int 1))) ah))) (o2 jU (o2 aN (vr 1) (cn (.int 0))) (o2 aN (vr 1) (cn (.int 1))))))))
def bH:List T->Rs T:=val 2 2 cx
def df:En->Rs Fl:=
 (aF (bJ (cl aE (ac (vr 1) (ac (cn (.int 0)) (ac (cn (.int 8)) ah)))) (cl j5 (ac (eU (iS (vr 1)) [none,some 0] (gN 0) bT (cl bH (ac (vr 1) (ac (vr 0) ah)))) ah))))
def cH:List T->Rs T:=val 2 2 df
def du:En->Rs Fl:=
 (aF (bJ (cl aE (ac (vr 0) (ac (cn (.int 2)) (ac (cn (.int 2)) ah)))) (bJ (cl cX (ac (o2 aN (vr 0) (cn (.int 0))) ah)) (cl cH (ac (o2 aN (vr 0) (cn (.int 0))) (ac (o2 aN (vr 0) (cn (.int 1))) ah))))))
def cP:List T->Rs T:=val 1 1 du
def c9:En->Rs Fl:=
 (dL (cD (tb (cl cP (ac (vr 0) ah)))) (wa "NoRecord") sN)
def bF:List T->Rs T:=val 1 1 c9
def gL:En->Rs Fl:=
 (ar (v9 (cl bF (ac (vr 0) ah))) (ar (gx 1 ah) (ar (fM (iE (ac (o2 aN (vr 0) (cn (.int 0))) ah)) (gT 2 (nA (gN 2) (nA (gN 3) uU))) (kH 1 (eU (iR (ac (cl bx (ac (o2 aN (vr 3) (cn (.int 2))) ah)) ah)) [none,some 2] (gN 0) bT (bq (ac (vr 1) (ac (vr 0) ah)))))) (mU 1 (aF (vr 1))))))
def ck:List T->Rs T:=val 1 4 gL
def ez:En->Rs Fl:=
 (ar (bN (cl bx (ac (cl ck (ac (vr 0) ah)) ah)) (gN 2)) (aF (bJ (cl aE (ac (vr 1) (ac (vr 2) (ac (vr 2) ah)))) (cl j5 (ac (eU (iS (vr 1)) [none] (gN 0) bT (cl dM (ac (vr 0) ah))) ah)))))
def fB:List T->Rs T:=val 2 3 ez
def bZ:En->Rs Fl:=
 (ar (bN (o2 aN (vr 1) (cn (.int 2))) (gN 2)) (ar (gx 3 ah) (ar (fM (iR (ac (o2 eF (cl bx (ac (vr 2) ah)) (cn (.int 1))) ah)) (gN 4) (ar (bN (bq (ac (vr 0) (ac (vr 4) ah))) (gN 5)) (ar (bN (bq (ac (vr 0) (ac (o2 aJ (vr 4) (cn (.int 1))) ah))) (gN 6)) (ar (bN (o2 eF (o2 aN (vr 2) (o2 aJ (vr 4) (cn (.int 1)))) (o2 aN (vr 2) (vr 4))) (gN 7)) (ar (jR 3 (bq (ac (vr 5) (ac (vr 6) (ac (o2 bL (vr 7) (o2 aN (vr 1) (cn (.int 1)))) ah))))) (jR 3 (bq (ac (vr 6) (ac (vr 5) (ac (o2 bL (o1 oU (vr 7)) (o2 aN (vr 1) (cn (.int 0)))) ah)))))))))) (mU 3 (aF (vr 3))))))
def bV:List T->Rs T:=val 2 8 bZ
def bM:En->Rs Fl:=
 (ar (gx 1 (ac (bq (ac (o2 aN (vr 0) (cn (.int 1))) (ac (o2 aN (vr 0) (cn (.int 0))) (ac (o1 oU (o2 aN (vr 0) (cn (.int 2)))) ah)))) ah)) (ar (dL (tb (o2 d6 (o2 aN (vr 0) (cn (.int 3))) (cn .non))) (jR 1 (bq (ac (o2 aN (vr 0) (cn (.int 0))) (ac (o2 aN (vr 0) (cn (.int 1))) (ac (o2 aN (vr 0) (cn (.int 3))) ah))))) sN) (mU 1 (aF (vr 1)))))
def aV:List T->Rs T:=val 1 2 bM
def gO:En->Rs Fl:=
 (ar (v9 (cl bF (ac (vr 0) ah))) (ar (gx 1 ah) (ar (fM (iE (ac (o2 aN (vr 0) (cn (.int 0))) ah)) (gT 2 (nA (gN 2) (nA (gN 3) uU))) (kH 1 (cl bV (ac (vr 2) (ac (vr 3) ah))))) (ar (fM (iS (o2 aN (vr 0) (cn (.int 1)))) (gN 4) (kH 1 (cl aV (ac (vr 4) ah)))) (mU 1 (aF (vr 1)))))))
def bj:List T->Rs T:=val 1 5 gO
def nS:En->Rs Fl:=
 (aF (o2 zG (o2 eF (o2 jt (vr 1) (o2 aN (vr 0) (cn (.int 1)))) (o2 jt (vr 1) (o2 aN (vr 0) (cn (.int 0))))) (o2 aN (vr 0) (cn (.int 2)))))
def kg:List T->Rs T:=val 2 2 nS
def gM:En->Rs Fl:=
 (ar (bN (cl BY (ac (cl ck (ac (vr 0) ah)) (ac (vr 1) ah))) (gN 2)) (aF (eU (iE (ac (cl bj (ac (vr 0) ah)) ah)) [none,none,some 2] (gT 2 (nA (gN 0) (nA (gN 1) uU))) (cD (tb (cl kg (ac (vr 1) (ac (vr 2) ah))))) (vr 0))))
def i0:List T->Rs T:=val 2 3 gM
def iB:En->Rs Fl:=
 (aF (bJ (cl fB (ac (vr 0) (ac (vr 1) ah))) (o2 jM (cl i0 (ac (vr 0) (ac (vr 1) ah))) (c7 ah))))
def dj:List T->Rs T:=val 2 2 iB
def et:En->Rs Fl:=
 (ar (bN (oD gf (vr 0) (o2 aN (vr 1) (cn (.int 1)))) (gN 3)) (aF (vG (o2 eV (vr 3) (cn .non)) (o2 zD (o2 aJ (o2 aN (vr 2) (cn (.int 0))) (o2 aN (vr 1) (cn (.int 2)))) (o2 aN (vr 3) (cn (.int 0)))))))
def cS:List T->Rs T:=val 3 4 et
def fy:En->Rs Fl:=
 (ar (lV 2 (eU (iS (vr 1)) [none] (gN 0) bT (bq (ac (vr 0) (ac (bq (ac (cn (.int 0)) (ac (c7 ah) ah))) ah))))) (ar (bN (cn (.bl true)) (gN 3)) (ar (bi (tb (vr 3)) (ar (bN (cn (.bl false)) (gN 3)) (fM (iE (ac (vr 0) ah)) (gT 2 (nA (gN 4) (nA (gN 5) uU))) (ar (bN (ln 2 (oD gf (vr 2) (o2 aN (vr 5) (cn (.int 0))))) (gN 6)) (ar (dL (jI (tb (o2 eV (vr 6) (cn .non))) (cD (zE 2 (tb (cl cS (ac (vr 2) (ac (vr 5) (ac (vr 6) ah)))))))) xY sN) (ar (bN (o2 aJ (o2 aN (vr 6) (cn (.int 1))) (c7 (ac (vr 4) ah))) (gN 7)) (ar (bN (eU (iS (vr 7)) [none,some 0] (gN 0) bT (o2 aN (o2 aN (vr 1) (vr 0)) (cn (.int 0)))) (gN 8)) (ar (dL (tb (o2 uS (o2 aN (vr 5) (cn (.int 1))) (vr 8))) (aF (bq (ac (cn .non) (ac (sl (vr 7) (pS (oL fD (vr 8) (o2 aN (vr 5) (cn (.int 1))))) pN) ah)))) sN) (ar (rM 2 (o2 aN (vr 5) (cn (.int 1))) (bq (ac (o2 aJ (o2 aN (vr 6) (cn (.int 0))) (o2 aN (vr 5) (cn (.int 2)))) (ac (vr 7) ah)))) (bN (cn (.bl true)) (gN 3)))))))))) FU) (mU 2 (aF (bq (ac (vr 2) (ac (cn .non) ah))))))))
def d7:List T->Rs T:=val 2 9 fy
def cr:En->Rs Fl:=
 (ar (bN (cl ck (ac (vr 0) ah)) (gN 2)) (ar (bN (o2 aN (cl d7 (ac (vr 1) (ac (vr 2) ah))) (cn (.int 0))) (gN 3)) (ar (dL (tb (o2 eV (vr 3) (cn .non))) (aF (cn .non)) sN) (aF (cl fW (ac (eU (iS (vr 2)) [none,some 3] (gN 0) bT (o2 aN (o2 jt (vr 1) (vr 0)) (cn (.int 0)))) ah))))))
def cW:List T->Rs T:=val 2 4 cr
def nR:En->Rs Fl:=
 (aF (cl cW (ac (vr 0) (ac (cl bj (ac (vr 0) ah)) ah))))
def dS:List T->Rs T:=val 1 1 nR
def jA:En->Rs Fl:=
 (aF (o2 aN (cl d7 (ac (cl bj (ac (vr 0) ah)) (ac (cl ck (ac (vr 0) ah)) ah))) (cn (.int 1))))
def eY:List T->Rs T:=val 1 1 jA
def gK:En->Rs Fl:=
 (aF (o2 d6 (cl dS (ac (vr 0) ah)) (cn .non)))
def dn:List T->Rs T:=val 1 1 gK
def de:En->Rs Fl:=
 (aF (bJ (o1 (uP "list") (vr 1)) (cl j5 (ac (eU (iS (vr 1)) [none,some 0] (gN 0) bT (cl aH (ac (vr 0) (ac (cn (.int 0)) (ac (o2 eF (cl bx (ac (vr 1) ah)) (cn (.int 1))) ah))))) ah))))
def cb:List T->Rs T:=val 2 2 de
def gc:En->Rs Fl:=
 (ar (dL (cD (tb (cl cb (ac (vr 0) (ac (vr 3) ah))))) (aF (cn (.bl false))) sN) (ar (bN (vr 1) (gN 4)) (ar (fM (iS (vr 3)) (gN 5) (ar (dL (tb (o2 jU (o2 aN (o2 aN (vr 0) (vr 5)) (cn (.int 0))) (vr 4))) (aF (cn (.bl false))) sN) (bN (o2 aN (o2 aN (vr 0) (vr 5)) (cn (.int 1))) (gN 4)))) (aF (o2 jM (vr 4) (vr 2))))))
def iZ:List T->Rs T:=val 4 6 gc
def db:En->Rs Fl:=
 (ar (dL (jI (cD (tb (cl cb (ac (vr 0) (ac (vr 1) ah))))) (tb (o2 jM (vr 1) (c7 ah)))) (aF (cn (.bl false))) sN) (ar (bN (o2 aN (o2 aN (vr 0) (o2 aN (vr 1) (cn (.int 0)))) (cn (.int 0))) (gN 2)) (aF (cl iZ (ac (vr 0) (ac (vr 2) (ac (vr 2) (ac (vr 1) ah))))))))
def cZ:List T->Rs T:=val 2 3 db
def gJ:En->Rs Fl:=
 (aF (cl yz (ac (eU (iS (vr 1)) [none,some 0] (gN 0) bT (o2 aN (o2 aN (vr 1) (vr 0)) (cn (.int 2)))) ah)))
def iY:List T->Rs T:=val 2 2 gJ
def lE:En->Rs Fl:=
 (ar (bN (cl bj (ac (vr 0) ah)) (gN 2)) (aF (bJ (cl cZ (ac (vr 2) (ac (vr 1) ah))) (o2 zD (cl iY (ac (vr 2) (ac (vr 1) ah))) (cn (.int 0))))))
def eJ:List T->Rs T:=val 2 3 lE
def da:En->Rs Fl:=
 (dL (cD (tb (cl aH (ac (vr 1) (ac (cn (.int 0)) (ac (o2 eF (vr 0) (cn (.int 1))) ah)))))) (wa "NoNumber") sN)
def dU:List T->Rs T:=val 2 2 da
def ef:En->Rs Fl:=
 (ar (v9 (cl bF (ac (vr 0) ah))) (ar (bN (o2 aN (vr 0) (cn (.int 1))) (gN 2)) (ar (v9 (cl dU (ac (cl bx (ac (vr 2) ah)) (ac (vr 1) ah)))) (ar (bN (cl bx (ac (cl bj (ac (bq (ac (o2 aN (vr 0) (cn (.int 0))) (ac (sl (vr 2) pN (pS (vr 1))) ah))) ah)) ah)) (gN 3)) (aF (lR (ac (vr 3) (ac (o2 aJ (vr 3) (cl bx (ac (cl aV (ac (o2 aN (vr 2) (vr 1)) ah)) ah))) ah))))))))
def cO:List T->Rs T:=val 2 4 ef
def vD:En->Rs Fl:=
 (ar (bN (cl dW (ac (vr 0) (ac (cn (.int 0)) (ac (cn (.int 6)) ah)))) (gN 1)) (ar (bN (cn .non) (gN 2)) (ar (fM (iS (o1 tF (lR (ac (o2 aJ (cl bx (ac (o2 aN (vr 1) (cn (.int 1))) ah)) (cn (.int 1))) ah)))) (gN 3) (ar (bN (bq (ac (o2 aN (vr 1) (cn (.int 0))) (ac (sl (o2 aN (vr 1) (cn (.int 1))) pN (pS (vr 3))) ah))) (gN 4)) (ar (bN (cl dS (ac (vr 4) ah)) (gN 5)) (ar (bN (cl eY (ac (vr 4) ah)) (gN 6)) (ar (dL (jI (tb (o2 jM (o2 eV (vr 5) (cn .non)) (o2 eV (vr 6) (cn .non)))) (tb (o2 jU (cl dn (ac (vr 4) ah)) (o2 eV (vr 6) (cn .non))))) (aF (cn (.bl false))) sN) (ar (dL (lA (tb (o2 d6 (vr 2) (cn .non))) (cD (tb (cl dj (ac (vr 4) (ac (vr 2) ah)))))) (aF (cn (.bl false))) sN) (ar (dL (tb (o2 d6 (vr 6) (cn .non))) (ar (dL (jI (cD (tb (cl eJ (ac (vr 4) (ac (vr 6) ah))))) (tb (o2 jU (cl eJ (ac (vr 4) (ac (o2 aJ (sl (vr 6) (pS (cn (.int 1))) pN) (sl (vr 6) pN (pS (cn (.int 1))))) ah))) (cn (.bl true))))) (aF (cn (.bl false))) sN) (ar (bN (c7 ah) (gN 7)) (ar (fM (iR (ac (vr 3) ah)) (gN 8) (bN (o2 aJ (vr 7) (cl cO (ac (vr 4) (ac (vr 8) ah)))) (gN 7))) (dL (tb (o2 jM (eU (iS (vr 6)) [none,some 7] (gN 0) (tb (o2 uS (vr 0) (vr 1))) (vr 0)) (c7 ah))) (aF (cn (.bl false))) sN)))) sN) (ar (bN (vr 5) (gN 2)) (ar (bN (eU (iR (ac (cl bx (ac (cl bj (ac (vr 4) ah)) ah)) ah)) [none,some 4] (gN 0) (tb (cl eJ (ac (vr 1) (ac (c7 (ac (vr 0) ah)) ah)))) (vr 0)) (gN 9)) (dL (lA (tb (o2 d6 (vr 2) (cn .non))) (tb (o2 jU (vr 9) (c7 ah)))) (aF (cn (.bl false))) sN)))))))))) (ar (dL (tb (o2 eV (vr 2) (cn .non))) (aF (cn (.bl false))) sN) (ar (bN (cl ck (ac (vr 1) ah)) (gN 10)) (ar (gx 11 ah) (ar (fM (iR (ac (cl ut (ac (cn (.int 5)) (ac (o2 eF (cl bx (ac (vr 10) ah)) (cn (.int 1))) ah))) ah)) (gN 12) (ar (bN (cl au (ac (vr 0) (ac (o2 aJ (cn (.int 80)) (o2 bL (cn (.int 2)) (vr 12))) (ac (cl bx (ac (vr 10) ah)) ah)))) (gN 13)) (ar (bN (o2 hY (o2 aJ (o2 aJ (vr 13) (cn (.int 1))) (cl au (ac (vr 0) (ac (o2 aJ (cn (.int 81)) (o2 bL (cn (.int 2)) (vr 12))) (ac (o2 eF (cl bx (ac (vr 10) ah)) (cn (.int 1))) ah))))) (cl bx (ac (vr 10) ah))) (gN 14)) (ar (bN (o2 eF (o2 aN (vr 2) (vr 14)) (o2 aN (vr 2) (vr 13))) (gN 15)) (dL (tb (o2 Ci (vr 15) (cn (.int 0)))) (jR 11 (bq (ac (o2 aN (vr 10) (vr 13)) (ac (o2 aN (vr 10) (vr 14)) (ac (vr 15) (ac (vr 15) ah)))))) sN))))) (aF (cl dj (ac (bq (ac (o2 aN (vr 1) (cn (.int 0))) (ac (ln 11 (cl fW (ac (vr 11) ah))) ah))) (ac (vr 2) ah)))))))))))
def m_law:List T->Rs T:=val 1 16 vD
end G
namespace G
open PySem PySem.Spec PyProof.Rows L2 Tr
section
variable {P:Program}{w:World}{K:PySem.W.Frag}{mg:Str->Option Value}{base:Heap}
abbrev iV:Stmt:=top 50
theorem mT:ay ["_law_script","_law_k"] ["_law_script","_law_k"] (aj iV):=⟨rfl,rfl,rfl,by decide+kernel,rfl,by decide+kernel,by decide+kernel⟩
theorem nh (F:fJ K mg "_law_cell" iV ["_law_script","_law_k"])(B:Bl mg):Cl P w K mg base 1 "_law_cell" 2 d8:=
 aX F mT rfl λf cdv A outer s H E hr xe=>(ak (bO (bo (kK (jX hr)) (ae 0) (eE af)) (ao (aw (aq cV ai (ae 1)))) ba) (ao (aw (aq aK (aB (ae 0) (aq gz (ae 1) (bD bA B.b_len boot_len (ag (ae 0) af)))) (aq cV ai (aq ka (ae 1) (bD bA B.b_len boot_len (ag (ae 0) af))))))))
abbrev ib:Stmt:=top 51
theorem sc__law_drawn:ay ["_law_script","_law_k","_law_many","_law_cell_here"] ["_law_script","_law_k","_law_many"] (aj ib):=⟨rfl,rfl,rfl,by decide+kernel,rfl,by decide+kernel,by decide+kernel⟩
theorem lJ (F:fJ K mg "_law_drawn" ib ["_law_script","_law_k","_law_many"])(c__law_cell:Cl P w K mg base 1 "_law_cell" 2 d8):Cl P w K mg base 2 "_law_drawn" 3 au:=
 aX F sc__law_drawn rfl λf cdv A outer s H E hr xe=>(by(refine @ak _ _ _ _ _ ?_ ?_;(focus exact(aA (aq gz (aq aK (aq cV (aq gz (aL c__law_cell hr (ag (ae 0) (ag (ae 1) af))) ai) ai) (aq cV ai (aq aK (ae 1) ai))) ai) (am 3 sc__law_drawn.nd)));refine @ak _ _ _ _ _ ?_ ?_;(focus exact(aA (aq gz (aq aK (aq cV (ae 3) (ae 3)) (aq ka (ae 3) ai)) ai) (am 3 sc__law_drawn.nd)));exact ao (aw (aq gz (aq ka (aq gz (aq aK (aq cV (ae 3) (ae 3)) (aq ka (ae 3) ai)) ai) ai) (ae 2)))))
abbrev fm:Stmt:=top 54
theorem sc__law_events:ay ["_law_clocks","_law_found","_law_number","_law_clock_here"] ["_law_clocks"] (aj fm):=⟨rfl,rfl,rfl,by decide+kernel,rfl,by decide+kernel,by decide+kernel⟩
theorem kS (F:fJ K mg "_law_events" fm ["_law_clocks"])(B:Bl mg):Cl P w K mg base 1 "_law_events" 1 c6:=
 aX F sc__law_events rfl λf cdv A outer s H E hr xe=>(by(refine @ak _ _ _ _ _ ?_ ?_;(focus exact(aA (eE af) (am 1 sc__law_events.nd)));refine @ak _ _ _ _ _ ?_ ?_;(focus exact(dh rfl (gm B.b_enumerate (ag (ae 0) af)) (iG rfl (cG (am 2 sc__law_events.nd) (cG (am 3 sc__law_events.nd) gn))) (ao (aA (aq aK (ae 1) (fz (N':=["_law_place","_law_number"]) (src:=[none,some 2]) rfl (LcScope.by (N:=["_law_clocks","_law_found","_law_number","_law_clock_here"]) (names:=(aj fm).names) rfl rfl rfl (by decide+kernel)) (ca B.b_range (ag (bD bA B.b_len boot_len (ag (aB (ae 3) ai) af)) af)) (λ_ _ _ _ _=>⟨(am 0 (show List.Nodup (["_law_place","_law_number"]:List Str)by decide+kernel)),ci,(bP (ag (ae 1) (ag (ae 0) af)))⟩))) (am 1 sc__law_events.nd)))));exact ao (aw (ae 1))))
abbrev gw:Stmt:=top 53
theorem sc__law_letter:ay ["_law_script","_law_at","_law_clocks","_law_row","_law_place","_law_other","_law_least","_law_most"] ["_law_script","_law_at","_law_clocks"] (aj gw):=⟨rfl,rfl,rfl,by decide+kernel,rfl,by decide+kernel,by decide+kernel⟩
theorem kR (F:fJ K mg "_law_letter" gw ["_law_script","_law_at","_law_clocks"])(c__law_events:Cl P w K mg base 1 "_law_events" 1 c6)(c__law_drawn:Cl P w K mg base 2 "_law_drawn" 3 au)(B:Bl mg):Cl P w K mg base 3 "_law_letter" 3 cI:=
 aX F sc__law_letter rfl λf cdv A outer s H E hr xe=>(by(refine @ak _ _ _ _ _ ?_ ?_;(focus exact(aA (aL c__law_events hr (ag (ae 2) af)) (am 3 sc__law_letter.nd)));refine @ak _ _ _ _ _ ?_ ?_;(focus exact(bO (bo qE (bD bA B.b_len boot_len (ag (ae 3) af)) ai) (ao (aw cj)) ba));refine @ak _ _ _ _ _ ?_ ?_;(focus exact(aA (aL c__law_drawn hr (ag (ae 0) (ag (ae 1) (ag (bD bA B.b_len boot_len (ag (ae 3) af)) af)))) (am 4 sc__law_letter.nd)));refine @ak _ _ _ _ _ ?_ ?_;(focus exact(aA (aq gz (aq aK (aq aK (ae 4) ai) (aL c__law_drawn hr (ag (ae 0) (ag (aq aK (ae 1) ai) (ag (aq eI (bD bA B.b_len boot_len (ag (ae 3) af)) ai) af))))) (bD bA B.b_len boot_len (ag (ae 3) af))) (am 5 sc__law_letter.nd)));refine @ak _ _ _ _ _ ?_ ?_;(focus exact(aA (aL c__law_drawn hr (ag (ae 0) (ag (aq aK (ae 1) ai) (ag ai af)))) (am 6 sc__law_letter.nd)));refine @ak _ _ _ _ _ ?_ ?_;(focus exact(aA (Aw (bo (kK (jX hr)) (aL c__law_drawn hr (ag (ae 0) (ag (aq aK (ae 1) ai) (ag ai af)))) ai) cj (aq aK (ae 6) (aL c__law_drawn hr (ag (ae 0) (ag (aq aK (ae 1) ai) (ag ai af)))))) (am 7 sc__law_letter.nd)));exact ao (aw (bP (ag (aB (ae 3) (ae 4)) (ag (aB (ae 3) (ae 5)) (ag (ae 6) (ag (ae 7) af))))))))
abbrev ie:Stmt:=top 52
theorem sc__law_clock:ay ["_law_script","_law_at","_law_slow","_law_readings","_law_k"] ["_law_script","_law_at"] (aj ie):=⟨rfl,rfl,rfl,by decide+kernel,rfl,by decide+kernel,by decide+kernel⟩
theorem lK (F:fJ K mg "_law_clock" ie ["_law_script","_law_at"])(c__law_drawn:Cl P w K mg base 2 "_law_drawn" 3 au)(B:Bl mg):Cl P w K mg base 3 "_law_clock" 2 bW:=
 aX F sc__law_clock rfl λf cdv A outer s H E hr xe=>(by(refine @ak _ _ _ _ _ ?_ ?_;(focus exact(aA (aq aK ai (aL c__law_drawn hr (ag (ae 0) (ag (ae 1) (ag ai af))))) (am 2 sc__law_clock.nd)));refine @ak _ _ _ _ _ ?_ ?_;(focus exact(aA (bP (ag (aL c__law_drawn hr (ag (ae 0) (ag (aq aK (ae 1) ai) (ag ai af)))) af)) (am 3 sc__law_clock.nd)));refine @ak _ _ _ _ _ ?_ ?_;(focus exact(dh rfl (ca B.b_range (ag (aL c__law_drawn hr (ag (ae 0) (ag (aq aK (ae 1) ai) (ag ai af)))) af)) (am 4 sc__law_clock.nd) (ao (aA (aq aK (ae 3) (bP (ag (aq aK (aq aK (aB (ae 3) (pF ai)) ai) (aL c__law_drawn hr (ag (ae 0) (ag (aq aK (aq aK (ae 1) ai) (ae 4)) (ag ai af))))) af))) (am 3 sc__law_clock.nd)))));exact ao (aw (bP (ag (ae 2) (ag (aq aK (ae 2) (aL c__law_drawn hr (ag (ae 0) (ag (aq aK (ae 1) ai) (ag ai af))))) (ag (ae 3) af)))))))
abbrev fj:Stmt:=top 55
theorem sc__law_record:ay ["_law_script","_law_at","_law_most","_law_clocks","_law_letters","_law_k","_law_letter_here"] ["_law_script","_law_at","_law_most"] (aj fj):=⟨rfl,rfl,rfl,by decide+kernel,rfl,by decide+kernel,by decide+kernel⟩
theorem kQ (F:fJ K mg "_law_record" fj ["_law_script","_law_at","_law_most"])(c__law_drawn:Cl P w K mg base 2 "_law_drawn" 3 au)(c__law_letter:Cl P w K mg base 3 "_law_letter" 3 cI)(c__law_clock:Cl P w K mg base 3 "_law_clock" 2 bW)(B:Bl mg):Cl P w K mg base 4 "_law_record" 3 dW:=
 aX F sc__law_record rfl λf cdv A outer s H E hr xe=>(by(refine @ak _ _ _ _ _ ?_ ?_;(focus exact(aA (nX jb B.b_tuple c8 (ag (fz (N':=["_law_k","_law_script","_law_at"]) (src:=[none,some 0,some 1]) rfl (LcScope.by (N:=["_law_script","_law_at","_law_most","_law_clocks","_law_letters","_law_k","_law_letter_here"]) (names:=(aj fj).names) rfl rfl rfl (by decide+kernel)) (ca B.b_range (ag (aq aK ai (aL c__law_drawn hr (ag (ae 0) (ag (ae 1) (ag ai af))))) af)) (λ_ _ _ _ _=>⟨(am 0 (show List.Nodup (["_law_k","_law_script","_law_at"]:List Str)by decide+kernel)),ci,(aL c__law_clock hr (ag (ae 1) (ag (aq aK (aq aK (ae 2) ai) (aq cV ai (ae 0))) af)))⟩)) af)) (am 3 sc__law_record.nd)));refine @ak _ _ _ _ _ ?_ ?_;(focus exact(aA (eE af) (am 4 sc__law_record.nd)));refine @ak _ _ _ _ _ ?_ ?_;(focus exact(dh rfl (ca B.b_range (ag (aL c__law_drawn hr (ag (ae 0) (ag (aq aK (ae 1) ai) (ag (aq aK (ae 2) ai) af)))) af)) (am 5 sc__law_record.nd) (ak (aA (aL c__law_letter hr (ag (ae 0) (ag (aq aK (aq aK (ae 1) ai) (aq cV ai (ae 5))) (ag (ae 3) af)))) (am 6 sc__law_record.nd)) (ao (aA (aq aK (ae 4) (aq cV (eE (ag (ae 6) af)) (nX Aj B.b_int jP (ag (dv fP (ae 6) cj) af)))) (am 4 sc__law_record.nd))))));exact ao (aw (bP (ag (ae 3) (ag (nX jb B.b_tuple c8 (ag (ae 4) af)) af))))))
abbrev kA:Stmt:=top 13
theorem pP:ay ["thing","least","most"] ["thing","least","most"] (aj kA):=⟨rfl,rfl,rfl,by decide+kernel,rfl,by decide+kernel,by decide+kernel⟩
theorem pW (F:fJ K mg "is_long" kA ["thing","least","most"])(B:Bl mg):Cl P w K mg base 1 "is_long" 3 aE:=
 aX F pP rfl λf cdv A outer s H E hr xe=>(ao (aw (cJ (qr B.b_isinstance B.b_tuple c8 (ae 0)) (cN (nW oI oI (ae 1) (bD bA B.b_len boot_len (ag (ae 0) af)) (ae 2))))))
abbrev jD:Stmt:=top 11
theorem on:ay ["thing"] ["thing"] (aj jD):=⟨rfl,rfl,rfl,by decide+kernel,rfl,by decide+kernel,by decide+kernel⟩
theorem oK (F:fJ K mg "is_whole" jD ["thing"])(B:Bl mg):Cl P w K mg base 1 "is_whole" 1 dM:=
 aX F on rfl λf cdv A outer s H E hr xe=>(ao (aw (cJ (qr B.b_isinstance B.b_int jP (ae 0)) (cN (yv (qr B.b_isinstance B.b_bool nK (ae 0)))))))
abbrev iN:Stmt:=top 12
theorem mO:ay ["thing","least","most"] ["thing","least","most"] (aj iN):=⟨rfl,rfl,rfl,by decide+kernel,rfl,by decide+kernel,by decide+kernel⟩
theorem m7 (F:fJ K mg "is_within" iN ["thing","least","most"])(c_is_whole:Cl P w K mg base 1 "is_whole" 1 dM):Cl P w K mg base 2 "is_within" 3 aH:=
 aX F mO rfl λf cdv A outer s H E hr xe=>(ao (aw (cJ (aL c_is_whole hr (ag (ae 0) af)) (cN (nW oI oI (ae 1) (ae 0) (ae 2))))))
abbrev kx:Stmt:=top 16
theorem pO:ay ["slow","fast"] ["slow","fast"] (aj kx):=⟨rfl,rfl,rfl,by decide+kernel,rfl,by decide+kernel,by decide+kernel⟩
theorem pV (F:fJ K mg "is_pace" kx ["slow","fast"])(c_is_within:Cl P w K mg base 2 "is_within" 3 aH)(C:Cs mg):Cl P w K mg base 3 "is_pace" 2 eX:=
 aX F pO rfl λf cdv A outer s H E hr xe=>(ao (aw (cJ (aL c_is_within hr (ag (ae 0) (ag ai (ag (nV C.SLOWEST) af)))) (cN (aL c_is_within hr (ag (ae 1) (ag (ae 0) (ag (nV C.SLOWEST) af))))))))
abbrev kw:Stmt:=top 14
theorem tu:ay ["numbers"] ["numbers"] (aj kw):=⟨rfl,rfl,rfl,by decide+kernel,rfl,by decide+kernel,by decide+kernel⟩
theorem ug (F:fJ K mg "rises" kw ["numbers"])(B:Bl mg):Cl P w K mg base 1 "rises" 1 g7:=
 aX F tu rfl λf cdv A outer s H E hr xe=>(ao (aw (bD (jv rfl) B.b_all boot_all (ag (fz (N':=["k","numbers"]) (src:=[none,some 0]) rfl (LcScope.by (N:=["numbers"]) (names:=(aj kw).names) rfl rfl rfl (by decide+kernel)) (ca B.b_range (ag (aq eI (bD bA B.b_len boot_len (ag (ae 0) af)) ai) af)) (λ_ _ _ _ _=>⟨(am 0 (show List.Nodup (["k","numbers"]:List Str)by decide+kernel)),ci,(dv qE (aB (ae 1) (ae 0)) (aB (ae 1) (aq aK (ae 0) ai)))⟩)) af))))
abbrev eG:Stmt:=top 15
theorem jQ:ay ["thing"] ["thing"] (aj eG):=⟨rfl,rfl,rfl,by decide+kernel,rfl,by decide+kernel,by decide+kernel⟩
theorem jT (F:fJ K mg "are_readings" eG ["thing"])(c_is_long:Cl P w K mg base 1 "is_long" 3 aE)(c_rises:Cl P w K mg base 1 "rises" 1 g7)(c_is_within:Cl P w K mg base 2 "is_within" 3 aH)(B:Bl mg)(C:Cs mg):Cl P w K mg base 3 "are_readings" 1 bn:=
 aX F jQ rfl λf cdv A outer s H E hr xe=>(ak (bO (cT (cy (aL c_is_long hr (ag (ae 0) (ag ai (ag (nV C.MOST_READINGS) af)))))) (ao (aw eK)) ba) (ao (aw (cJ (bD (jv rfl) B.b_all boot_all (ag (fz (N':=["part"]) (src:=[none]) rfl (LcScope.by (N:=["thing"]) (names:=(aj eG).names) rfl rfl rfl (by decide+kernel)) (cU (ae 0)) (λ_ _ _ _ _=>⟨(am 0 (show List.Nodup (["part"]:List Str)by decide+kernel)),ci,(aL c_is_within hr (ag (ae 0) (ag ai (ag (nV C.LAST_READING) af))))⟩)) af)) (cN (aL c_rises hr (ag (ae 0) af)))))))
abbrev jG:Stmt:=top 17
theorem ou:ay ["thing"] ["thing"] (aj jG):=⟨rfl,rfl,rfl,by decide+kernel,rfl,by decide+kernel,by decide+kernel⟩
theorem oO (F:fJ K mg "is_clock" jG ["thing"])(c_is_long:Cl P w K mg base 1 "is_long" 3 aE)(c_is_pace:Cl P w K mg base 3 "is_pace" 2 eX)(c_are_readings:Cl P w K mg base 3 "are_readings" 1 bn):Cl P w K mg base 4 "is_clock" 1 cR:=
 aX F ou rfl λf cdv A outer s H E hr xe=>(ao (aw (cJ (aL c_is_long hr (ag (ae 0) (ag ai (ag ai af)))) (cJ (aL c_is_pace hr (ag (aB (ae 0) ai) (ag (aB (ae 0) ai) af))) (cN (aL c_are_readings hr (ag (aB (ae 0) ai) af)))))))
abbrev fH:Stmt:=top 18
theorem lH:ay ["thing"] ["thing"] (aj fH):=⟨rfl,rfl,rfl,by decide+kernel,rfl,by decide+kernel,by decide+kernel⟩
theorem lI (F:fJ K mg "are_clocks" fH ["thing"])(c_is_long:Cl P w K mg base 1 "is_long" 3 aE)(c_is_clock:Cl P w K mg base 4 "is_clock" 1 cR)(B:Bl mg)(C:Cs mg):Cl P w K mg base 5 "are_clocks" 1 cX:=
 aX F lH rfl λf cdv A outer s H E hr xe=>(ao (aw (cJ (aL c_is_long hr (ag (ae 0) (ag ai (ag (nV C.MOST_CLOCKS) af)))) (cN (bD (jv rfl) B.b_all boot_all (ag (fz (N':=["part"]) (src:=[none]) rfl (LcScope.by (N:=["thing"]) (names:=(aj fH).names) rfl rfl rfl (by decide+kernel)) (cU (ae 0)) (λ_ _ _ _ _=>⟨(am 0 (show List.Nodup (["part"]:List Str)by decide+kernel)),ci,(aL c_is_clock hr (ag (ae 0) af))⟩)) af))))))
abbrev jE:Stmt:=top 19
theorem oo:ay ["clocks","thing"] ["clocks","thing"] (aj jE):=⟨rfl,rfl,rfl,by decide+kernel,rfl,by decide+kernel,by decide+kernel⟩
theorem oM (F:fJ K mg "is_event" jE ["clocks","thing"])(c_is_within:Cl P w K mg base 2 "is_within" 3 aH)(c_is_long:Cl P w K mg base 1 "is_long" 3 aE)(B:Bl mg):Cl P w K mg base 3 "is_event" 2 cQ:=
 aX F oo rfl λf cdv A outer s H E hr xe=>(ak (bO (jB (jf (cT (cy (aL c_is_long hr (ag (ae 1) (ag ai (ag ai af)))))) (gP (cT (cy (aL c_is_within hr (ag (aB (ae 1) ai) (ag ai (ag (aq eI (bD bA B.b_len boot_len (ag (ae 0) af)) ai) af))))))))) (ao (aw eK)) ba) (ao (aw (aL c_is_within hr (ag (aB (ae 1) ai) (ag ai (ag (aq eI (bD bA B.b_len boot_len (ag (aB (aB (ae 0) (aB (ae 1) ai)) ai) af)) ai) af)))))))
abbrev jF:Stmt:=top 20
theorem oq:ay ["least","most"] ["least","most"] (aj jF):=⟨rfl,rfl,rfl,by decide+kernel,rfl,by decide+kernel,by decide+kernel⟩
theorem oN (F:fJ K mg "is_delay" jF ["least","most"])(c_is_within:Cl P w K mg base 2 "is_within" 3 aH)(C:Cs mg):Cl P w K mg base 3 "is_delay" 2 dk:=
 aX F oq rfl λf cdv A outer s H E hr xe=>(ao (aw (cJ (aL c_is_within hr (ag (ae 0) (ag ai (ag (nV C.LONGEST) af)))) (cN (xR (dv jH (ae 1) cj) (cN (aL c_is_within hr (ag (ae 1) (ag (ae 0) (ag (nV C.LONGEST) af))))))))))
abbrev iP:Stmt:=top 21
theorem mQ:ay ["clocks","thing"] ["clocks","thing"] (aj iP):=⟨rfl,rfl,rfl,by decide+kernel,rfl,by decide+kernel,by decide+kernel⟩
theorem m9 (F:fJ K mg "is_letter" iP ["clocks","thing"])(c_is_event:Cl P w K mg base 3 "is_event" 2 cQ)(c_is_long:Cl P w K mg base 1 "is_long" 3 aE)(c_is_delay:Cl P w K mg base 3 "is_delay" 2 dk):Cl P w K mg base 4 "is_letter" 2 bH:=
 aX F mQ rfl λf cdv A outer s H E hr xe=>(ak (bO (jB (jf (cT (cy (aL c_is_long hr (ag (ae 1) (ag ai (ag ai af)))))) (gP (cT (cy (aL c_is_delay hr (ag (aB (ae 1) ai) (ag (aB (ae 1) ai) af)))))))) (ao (aw eK)) ba) (ao (aw (cJ (aL c_is_event hr (ag (ae 0) (ag (aB (ae 1) ai) af))) (cJ (aL c_is_event hr (ag (ae 0) (ag (aB (ae 1) ai) af))) (cN (dv (oH (jX hr)) (aB (ae 1) ai) (aB (ae 1) ai))))))))
abbrev fh:Stmt:=top 22
theorem kG:ay ["clocks","thing"] ["clocks","thing"] (aj fh):=⟨rfl,rfl,rfl,by decide+kernel,rfl,by decide+kernel,by decide+kernel⟩
theorem kP (F:fJ K mg "are_letters" fh ["clocks","thing"])(c_is_long:Cl P w K mg base 1 "is_long" 3 aE)(c_is_letter:Cl P w K mg base 4 "is_letter" 2 bH)(B:Bl mg)(C:Cs mg):Cl P w K mg base 5 "are_letters" 2 cH:=
 aX F kG rfl λf cdv A outer s H E hr xe=>(ao (aw (cJ (aL c_is_long hr (ag (ae 1) (ag ai (ag (nV C.MOST_LETTERS) af)))) (cN (bD (jv rfl) B.b_all boot_all (ag (fz (N':=["part","clocks"]) (src:=[none,some 0]) rfl (LcScope.by (N:=["clocks","thing"]) (names:=(aj fh).names) rfl rfl rfl (by decide+kernel)) (cU (ae 1)) (λ_ _ _ _ _=>⟨(am 0 (show List.Nodup (["part","clocks"]:List Str)by decide+kernel)),ci,(aL c_is_letter hr (ag (ae 1) (ag (ae 0) af)))⟩)) af))))))
abbrev iO:Stmt:=top 23
theorem mP:ay ["thing"] ["thing"] (aj iO):=⟨rfl,rfl,rfl,by decide+kernel,rfl,by decide+kernel,by decide+kernel⟩
theorem m8 (F:fJ K mg "is_record" iO ["thing"])(c_is_long:Cl P w K mg base 1 "is_long" 3 aE)(c_are_clocks:Cl P w K mg base 5 "are_clocks" 1 cX)(c_are_letters:Cl P w K mg base 5 "are_letters" 2 cH):Cl P w K mg base 6 "is_record" 1 cP:=
 aX F mP rfl λf cdv A outer s H E hr xe=>(ao (aw (cJ (aL c_is_long hr (ag (ae 0) (ag ai (ag ai af)))) (cJ (aL c_are_clocks hr (ag (aB (ae 0) ai) af)) (cN (aL c_are_letters hr (ag (aB (ae 0) ai) (ag (aB (ae 0) ai) af))))))))
abbrev gt:Stmt:=top 24
theorem kD:ay ["thing"] ["thing"] (aj gt):=⟨rfl,rfl,rfl,by decide+kernel,rfl,by decide+kernel,by decide+kernel⟩
theorem kL (F:fJ K mg "need_record" gt ["thing"])(c_is_record:Cl P w K mg base 6 "is_record" 1 cP){C_NoRecord C_NoNumber C_ClockError:Addr}(S:Xs K mg C_NoRecord C_NoNumber C_ClockError):Cl P w K mg base 7 "need_record" 1 bF:=
 aX F kD rfl λf cdv A outer s H E hr xe=>(ao (bO (cT (cy (aL c_is_record hr (ag (ae 0) af)))) (ao (lN S.o_NoRecord S.m_NoRecord)) ba))
abbrev jh:Stmt:=top 26
theorem sc_events:ay ["record","told","number","clock"] ["record"] (aj jh):=⟨rfl,rfl,rfl,by decide+kernel,rfl,by decide+kernel,by decide+kernel⟩
theorem rR (F:fJ K mg "events" jh ["record"])(c_need_record:Cl P w K mg base 7 "need_record" 1 bF)(B:Bl mg):Cl P w K mg base 8 "events" 1 ck:=
 aX F sc_events rfl λf cdv A outer s H E hr xe=>(by(refine @ak _ _ _ _ _ ?_ ?_;(focus exact(iD (aL c_need_record hr (ag (ae 0) af))));refine @ak _ _ _ _ _ ?_ ?_;(focus exact(gg 1 sc_events.nd af));refine @ak _ _ _ _ _ ?_ ?_;(focus exact(dh rfl (gm B.b_enumerate (ag (aB (ae 0) ai) af)) (iG rfl (cG (am 2 sc_events.nd) (cG (am 3 sc_events.nd) gn))) (ao (mI 1 (fz (N':=["k","number"]) (src:=[none,some 2]) rfl (LcScope.by (N:=["record","told","number","clock"]) (names:=(aj jh).names) rfl rfl rfl (by decide+kernel)) (ca B.b_range (ag (bD bA B.b_len boot_len (ag (aB (ae 3) ai) af)) af)) (λ_ _ _ _ _=>⟨(am 0 (show List.Nodup (["k","number"]:List Str)by decide+kernel)),ci,(bP (ag (ae 1) (ag (ae 0) af)))⟩))))));exact ao (iF 1 (aw (ae 1)))))
abbrev fY:Stmt:=top 32
theorem sc_are_times:ay ["record","thing","many"] ["record","thing"] (aj fY):=⟨rfl,rfl,rfl,by decide+kernel,rfl,by decide+kernel,by decide+kernel⟩
theorem ng (F:fJ K mg "are_times" fY ["record","thing"])(c_events:Cl P w K mg base 8 "events" 1 ck)(c_is_long:Cl P w K mg base 1 "is_long" 3 aE)(c_is_whole:Cl P w K mg base 1 "is_whole" 1 dM)(B:Bl mg):Cl P w K mg base 9 "are_times" 2 fB:=
 aX F sc_are_times rfl λf cdv A outer s H E hr xe=>(ak (aA (bD bA B.b_len boot_len (ag (aL c_events hr (ag (ae 0) af)) af)) (am 2 sc_are_times.nd)) (ao (aw (cJ (aL c_is_long hr (ag (ae 1) (ag (ae 2) (ag (ae 2) af)))) (cN (bD (jv rfl) B.b_all boot_all (ag (fz (N':=["part"]) (src:=[none]) rfl (LcScope.by (N:=["record","thing","many"]) (names:=(aj fY).names) rfl rfl rfl (by decide+kernel)) (cU (ae 1)) (λ_ _ _ _ _=>⟨(am 0 (show List.Nodup (["part"]:List Str)by decide+kernel)),ci,(aL c_is_whole hr (ag (ae 0) af))⟩)) af)))))))
abbrev ff:Stmt:=top 28
theorem sc_bounds_of_clock:ay ["number","clock","readings","told","k","first","second","steps"] ["number","clock"] (aj ff):=⟨rfl,rfl,rfl,by decide+kernel,rfl,by decide+kernel,by decide+kernel⟩
theorem iu (F:fJ K mg "bounds_of_clock" ff ["number","clock"])(B:Bl mg):Cl P w K mg base 1 "bounds_of_clock" 2 bV:=
 aX F sc_bounds_of_clock rfl λf cdv A outer s H E hr xe=>(by(refine @ak _ _ _ _ _ ?_ ?_;(focus exact(aA (aB (ae 1) ai) (am 2 sc_bounds_of_clock.nd)));refine @ak _ _ _ _ _ ?_ ?_;(focus exact(gg 3 sc_bounds_of_clock.nd af));refine @ak _ _ _ _ _ ?_ ?_;(focus exact(dh rfl (ca B.b_range (ag (aq eI (bD bA B.b_len boot_len (ag (ae 2) af)) ai) af)) (am 4 sc_bounds_of_clock.nd) (by(refine @ak _ _ _ _ _ ?_ ?_;(focus exact(aA (bP (ag (ae 0) (ag (ae 4) af))) (am 5 sc_bounds_of_clock.nd)));refine @ak _ _ _ _ _ ?_ ?_;(focus exact(aA (bP (ag (ae 0) (ag (aq aK (ae 4) ai) af))) (am 6 sc_bounds_of_clock.nd)));refine @ak _ _ _ _ _ ?_ ?_;(focus exact(aA (aq eI (aB (ae 2) (aq aK (ae 4) ai)) (aB (ae 2) (ae 4))) (am 7 sc_bounds_of_clock.nd)));refine @ak _ _ _ _ _ ?_ ?_;(focus exact(j7 3 (bP (ag (ae 5) (ag (ae 6) (ag (aq cV (ae 7) (aB (ae 1) ai)) af))))));exact ao (j7 3 (bP (ag (ae 6) (ag (ae 5) (ag (aq cV (pF (ae 7)) (aB (ae 1) ai)) af)))))))));exact ao (iF 3 (aw (ae 3)))))
abbrev eO:Stmt:=top 29
theorem sc_bounds_of_letter:ay ["letter","told"] ["letter"] (aj eO):=⟨rfl,rfl,rfl,by decide+kernel,rfl,by decide+kernel,by decide+kernel⟩
theorem hW (F:fJ K mg "bounds_of_letter" eO ["letter"]):Cl P w K mg base 1 "bounds_of_letter" 1 aV:=
 aX F sc_bounds_of_letter rfl λf cdv A outer s H E hr xe=>(by(refine @ak _ _ _ _ _ ?_ ?_;(focus exact(gg 1 sc_bounds_of_letter.nd (ag (bP (ag (aB (ae 0) ai) (ag (aB (ae 0) ai) (ag (pF (aB (ae 0) ai)) af)))) af)));refine @ak _ _ _ _ _ ?_ ?_;(focus exact(bO (bo fP (aB (ae 0) ai) cj) (ao (j7 1 (bP (ag (aB (ae 0) ai) (ag (aB (ae 0) ai) (ag (aB (ae 0) ai) af)))))) ba));exact ao (iF 1 (aw (ae 1)))))
abbrev lT:Stmt:=top 30
theorem sc_bounds:ay ["record","told","number","clock","letter"] ["record"] (aj lT):=⟨rfl,rfl,rfl,by decide+kernel,rfl,by decide+kernel,by decide+kernel⟩
theorem rV (F:fJ K mg "bounds" lT ["record"])(c_need_record:Cl P w K mg base 7 "need_record" 1 bF)(c_bounds_of_clock:Cl P w K mg base 1 "bounds_of_clock" 2 bV)(c_bounds_of_letter:Cl P w K mg base 1 "bounds_of_letter" 1 aV)(B:Bl mg):Cl P w K mg base 8 "bounds" 1 bj:=
 aX F sc_bounds rfl λf cdv A outer s H E hr xe=>(by(refine @ak _ _ _ _ _ ?_ ?_;(focus exact(iD (aL c_need_record hr (ag (ae 0) af))));refine @ak _ _ _ _ _ ?_ ?_;(focus exact(gg 1 sc_bounds.nd af));refine @ak _ _ _ _ _ ?_ ?_;(focus exact(dh rfl (gm B.b_enumerate (ag (aB (ae 0) ai) af)) (iG rfl (cG (am 2 sc_bounds.nd) (cG (am 3 sc_bounds.nd) gn))) (ao (mI 1 (aL c_bounds_of_clock hr (ag (ae 2) (ag (ae 3) af)))))));refine @ak _ _ _ _ _ ?_ ?_;(focus exact(dh rfl (cU (aB (ae 0) ai)) (am 4 sc_bounds.nd) (ao (mI 1 (aL c_bounds_of_letter hr (ag (ae 4) af))))));exact ao (iF 1 (aw (ae 1)))))
abbrev og:Stmt:=top 33
theorem tw:ay ["bound","time_of"] ["bound","time_of"] (aj og):=⟨rfl,rfl,rfl,by decide+kernel,rfl,by decide+kernel,by decide+kernel⟩
theorem ui (F:fJ K mg "holds" og ["bound","time_of"]):Cl P w K mg base 1 "holds" 2 kg:=
 aX F tw rfl λf cdv A outer s H E hr xe=>(ao (aw (dv oI (aq eI (pG (Av hr) (ae 1) (aB (ae 0) ai)) (pG (Av hr) (ae 1) (aB (ae 0) ai))) (aB (ae 0) ai))))
abbrev ji:Stmt:=top 34
theorem sc_broken:ay ["record","times","time_of"] ["record","times"] (aj ji):=⟨rfl,rfl,rfl,by decide+kernel,rfl,by decide+kernel,by decide+kernel⟩
theorem rS (F:fJ K mg "broken" ji ["record","times"])(c_events:Cl P w K mg base 8 "events" 1 ck)(c_bounds:Cl P w K mg base 8 "bounds" 1 bj)(c_holds:Cl P w K mg base 1 "holds" 2 kg)(B:Bl mg):Cl P w K mg base 9 "broken" 2 i0:=
 aX F sc_broken rfl λf cdv A outer s H E hr xe=>(ak (aA (vM (hu8 hr) rfl B.b_dict B.b_zip (ag (aL c_events hr (ag (ae 0) af)) (ag (ae 1) af))) (am 2 sc_broken.nd)) (ao (aw (fz (N':=["number","bound","time_of"]) (src:=[none,none,some 2]) rfl (LcScope.by (N:=["record","times","time_of"]) (names:=(aj ji).names) rfl rfl rfl (by decide+kernel)) (gm B.b_enumerate (ag (aL c_bounds hr (ag (ae 0) af)) af)) (λ_ _ _ _ _=>⟨(iG rfl (cG (am 0 (show List.Nodup (["number","bound","time_of"]:List Str)by decide+kernel)) (cG (am 1 (show List.Nodup (["number","bound","time_of"]:List Str)by decide+kernel)) gn))),(kt (cT (cy (aL c_holds hr (ag (ae 1) (ag (ae 2) af)))))),(ae 0)⟩)))))
abbrev jC:Stmt:=top 35
theorem om:ay ["record","thing"] ["record","thing"] (aj jC):=⟨rfl,rfl,rfl,by decide+kernel,rfl,by decide+kernel,by decide+kernel⟩
theorem oJ (F:fJ K mg "is_world" jC ["record","thing"])(c_are_times:Cl P w K mg base 9 "are_times" 2 fB)(c_broken:Cl P w K mg base 9 "broken" 2 i0):Cl P w K mg base 10 "is_world" 2 dj:=
 aX F om rfl λf cdv A outer s H E hr xe=>(ao (aw (cJ (aL c_are_times hr (ag (ae 0) (ag (ae 1) af))) (cN (dv (kK (jX hr)) (aL c_broken hr (ag (ae 0) (ag (ae 1) af))) (eE af))))))
abbrev iQ:Stmt:=top 42
theorem sc_is_better:ay ["best","bound","ahead","known"] ["best","bound","ahead"] (aj iQ):=⟨rfl,rfl,rfl,by decide+kernel,rfl,by decide+kernel,by decide+kernel⟩
theorem na (F:fJ K mg "is_better" iQ ["best","bound","ahead"]):Cl P w K mg base 1 "is_better" 3 cS:=
 aX F sc_is_better rfl λf cdv A outer s H E hr xe=>(ak (aA (qt (Av hr) (ae 0) (aB (ae 1) ai)) (am 3 sc_is_better.nd)) (ao (aw (xR (dv jH (ae 3) cj) (cN (dv qE (aq aK (aB (ae 2) ai) (aB (ae 1) ai)) (aB (ae 3) ai)))))))
abbrev gR:Stmt:=top 41
theorem sc_settle:ay ["limits","starts","best","moved","number","bound","ahead","walk","passed"] ["limits","starts"] (aj gR):=⟨rfl,rfl,rfl,by decide+kernel,rfl,by decide+kernel,by decide+kernel⟩
theorem rQ (F:fJ K mg "settle" gR ["limits","starts"])(c_is_better:Cl P w K mg base 1 "is_better" 3 cS)(B:Bl mg):Cl P w K mg base 2 "settle" 2 d7:=
 aX F sc_settle rfl λf cdv A outer s H E hr xe=>(by(refine @ak _ _ _ _ _ ?_ ?_;(focus exact(sO 2 (hu8 hr) rfl B.b_dict sc_settle.nd (fz (N':=["event"]) (src:=[none]) rfl (LcScope.by (N:=["limits","starts","best","moved","number","bound","ahead","walk","passed"]) (names:=(aj gR).names) rfl rfl rfl (by decide+kernel)) (cU (ae 1)) (λ_ _ _ _ _=>⟨(am 0 (show List.Nodup (["event"]:List Str)by decide+kernel)),ci,(bP (ag (ae 0) (ag (bP (ag ai (ag (eE af) af))) af)))⟩))));refine @ak _ _ _ _ _ ?_ ?_;(focus exact(aA eK (am 3 sc_settle.nd)));refine @ak _ _ _ _ _ ?_ ?_;(focus exact(rB FU (cy (ae 3)) (ak (aA eK (am 3 sc_settle.nd)) (ao (dh rfl (gm B.b_enumerate (ag (ae 0) af)) (iG rfl (cG (am 4 sc_settle.nd) (cG (am 5 sc_settle.nd) gn))) (by(refine @ak _ _ _ _ _ ?_ ?_;(focus exact(aA (xS 2 (qt (Av hr) (ae 2) (aB (ae 5) ai))) (am 6 sc_settle.nd)));refine @ak _ _ _ _ _ ?_ ?_;(focus exact(bO (jB (jf (bo jH (ae 6) cj) (gP (cT (yq 2 (cy (aL c_is_better hr (ag (ae 2) (ag (ae 5) (ag (ae 6) af)))))))))) (ao yr) ba));refine @ak _ _ _ _ _ ?_ ?_;(focus exact(aA (aq aK (aB (ae 6) ai) (eE (ag (ae 4) af))) (am 7 sc_settle.nd)));refine @ak _ _ _ _ _ ?_ ?_;(focus exact(sP 8 (N':=["step","limits"]) (src:=[none,some 0]) rfl (LcScope.by (N:=["limits","starts","best","moved","number","bound","ahead","walk","passed"]) (names:=(aj gR).names) rfl rfl rfl (by decide+kernel)) (cU (ae 7)) (λ_ _ _ _ _=>⟨(am 0 (show List.Nodup (["step","limits"]:List Str)by decide+kernel)),ci,(aB (aB (ae 1) (ae 0)) ai)⟩) sc_settle.nd));refine @ak _ _ _ _ _ ?_ ?_;(focus exact(bO (bo (ya (zW hr)) (aB (ae 5) ai) (ae 8)) (ao (aw (bP (ag cj (ag (gp (ae 7) (gh (rC (zW hr) (ae 8) (aB (ae 5) ai))) gk) af))))) ba));refine @ak _ _ _ _ _ ?_ ?_;(focus exact(vK 2 (Av hr) (aB (ae 5) ai) (bP (ag (aq aK (aB (ae 6) ai) (aB (ae 5) ai)) (ag (ae 7) af)))));exact ao (aA eK (am 3 sc_settle.nd)))))))));exact ao (iF 2 (aw (bP (ag (ae 2) (ag cj af)))))))
abbrev dw:Stmt:=top 44
theorem sc_greatest_world:ay ["record","limits","places","best"] ["record","limits"] (aj dw):=⟨rfl,rfl,rfl,by decide+kernel,rfl,by decide+kernel,by decide+kernel⟩
theorem iW (F:fJ K mg "greatest_world" dw ["record","limits"])(c_events:Cl P w K mg base 8 "events" 1 ck)(c_settle:Cl P w K mg base 2 "settle" 2 d7)(B:Bl mg):Cl P w K mg base 9 "greatest_world" 2 cW:=
 aX F sc_greatest_world rfl λf cdv A outer s H E hr xe=>(by(refine @ak _ _ _ _ _ ?_ ?_;(focus exact(aA (aL c_events hr (ag (ae 0) af)) (am 2 sc_greatest_world.nd)));refine @ak _ _ _ _ _ ?_ ?_;(focus exact(aA (aB (aL c_settle hr (ag (ae 1) (ag (ae 2) af))) ai) (am 3 sc_greatest_world.nd)));refine @ak _ _ _ _ _ ?_ ?_;(focus exact(bO (bo jH (ae 3) cj) (ao (aw cj)) ba));exact ao (aw (nX jb B.b_tuple c8 (ag (fz (N':=["event","best"]) (src:=[none,some 3]) rfl (LcScope.by (N:=["record","limits","places","best"]) (names:=(aj dw).names) rfl rfl rfl (by decide+kernel)) (cU (ae 2)) (λ_ _ _ _ _=>⟨(am 0 (show List.Nodup (["event","best"]:List Str)by decide+kernel)),ci,(aB (pG (Av hr) (ae 1) (ae 0)) ai)⟩)) af)))))
abbrev n9:Stmt:=top 45
theorem tq:ay ["record"] ["record"] (aj n9):=⟨rfl,rfl,rfl,by decide+kernel,rfl,by decide+kernel,by decide+kernel⟩
theorem ue (F:fJ K mg "world" n9 ["record"])(c_greatest_world:Cl P w K mg base 9 "greatest_world" 2 cW)(c_bounds:Cl P w K mg base 8 "bounds" 1 bj):Cl P w K mg base 10 "world" 1 dS:=
 aX F tq rfl λf cdv A outer s H E hr xe=>(ao (aw (aL c_greatest_world hr (ag (ae 0) (ag (aL c_bounds hr (ag (ae 0) af)) af)))))
abbrev kB:Stmt:=top 47
theorem pQ:ay ["record"] ["record"] (aj kB):=⟨rfl,rfl,rfl,by decide+kernel,rfl,by decide+kernel,by decide+kernel⟩
theorem pX (F:fJ K mg "barring" kB ["record"])(c_settle:Cl P w K mg base 2 "settle" 2 d7)(c_bounds:Cl P w K mg base 8 "bounds" 1 bj)(c_events:Cl P w K mg base 8 "events" 1 ck):Cl P w K mg base 9 "barring" 1 eY:=
 aX F pQ rfl λf cdv A outer s H E hr xe=>(ao (aw (aB (aL c_settle hr (ag (aL c_bounds hr (ag (ae 0) af)) (ag (aL c_events hr (ag (ae 0) af)) af))) ai)))
abbrev iU:Stmt:=top 46
theorem mS:ay ["record"] ["record"] (aj iU):=⟨rfl,rfl,rfl,by decide+kernel,rfl,by decide+kernel,by decide+kernel⟩
theorem nc (F:fJ K mg "has_world" iU ["record"])(c_world:Cl P w K mg base 10 "world" 1 dS):Cl P w K mg base 11 "has_world" 1 dn:=
 aX F mS rfl λf cdv A outer s H E hr xe=>(ao (aw (dv fP (aL c_world hr (ag (ae 0) af)) cj)))
abbrev fg:Stmt:=top 37
theorem kF:ay ["limits","thing"] ["limits","thing"] (aj fg):=⟨rfl,rfl,rfl,by decide+kernel,rfl,by decide+kernel,by decide+kernel⟩
theorem kO (F:fJ K mg "are_numbers" fg ["limits","thing"])(c_is_within:Cl P w K mg base 2 "is_within" 3 aH)(B:Bl mg):Cl P w K mg base 3 "are_numbers" 2 cb:=
 aX F kF rfl λf cdv A outer s H E hr xe=>(ao (aw (cJ (qr B.b_isinstance B.b_list nJ (ae 1)) (cN (bD (jv rfl) B.b_all boot_all (ag (fz (N':=["part","limits"]) (src:=[none,some 0]) rfl (LcScope.by (N:=["limits","thing"]) (names:=(aj fg).names) rfl rfl rfl (by decide+kernel)) (cU (ae 1)) (λ_ _ _ _ _=>⟨(am 0 (show List.Nodup (["part","limits"]:List Str)by decide+kernel)),ci,(aL c_is_within hr (ag (ae 0) (ag ai (ag (aq eI (bD bA B.b_len boot_len (ag (ae 1) af)) ai) af))))⟩)) af))))))
abbrev oa:Stmt:=top 39
theorem sc_leads:ay ["limits","one","other","thing","place","number"] ["limits","one","other","thing"] (aj oa):=⟨rfl,rfl,rfl,by decide+kernel,rfl,by decide+kernel,by decide+kernel⟩
theorem uh (F:fJ K mg "leads" oa ["limits","one","other","thing"])(c_are_numbers:Cl P w K mg base 3 "are_numbers" 2 cb):Cl P w K mg base 4 "leads" 4 iZ:=
 aX F sc_leads rfl λf cdv A outer s H E hr xe=>(by(refine @ak _ _ _ _ _ ?_ ?_;(focus exact(bO (cT (cy (aL c_are_numbers hr (ag (ae 0) (ag (ae 3) af))))) (ao (aw eK)) ba));refine @ak _ _ _ _ _ ?_ ?_;(focus exact(aA (ae 1) (am 4 sc_leads.nd)));refine @ak _ _ _ _ _ ?_ ?_;(focus exact(dh rfl (cU (ae 3)) (am 5 sc_leads.nd) (ak (bO (bo (oH (jX hr)) (aB (aB (ae 0) (ae 5)) ai) (ae 4)) (ao (aw eK)) ba) (ao (aA (aB (aB (ae 0) (ae 5)) ai) (am 4 sc_leads.nd))))));exact ao (aw (dv (kK (jX hr)) (ae 4) (ae 2)))))
abbrev gv:Stmt:=top 40
theorem sc_leads_round:ay ["limits","thing","start"] ["limits","thing"] (aj gv):=⟨rfl,rfl,rfl,by decide+kernel,rfl,by decide+kernel,by decide+kernel⟩
theorem kN (F:fJ K mg "leads_round" gv ["limits","thing"])(c_leads:Cl P w K mg base 4 "leads" 4 iZ)(c_are_numbers:Cl P w K mg base 3 "are_numbers" 2 cb):Cl P w K mg base 5 "leads_round" 2 cZ:=
 aX F sc_leads_round rfl λf cdv A outer s H E hr xe=>(by(refine @ak _ _ _ _ _ ?_ ?_;(focus exact(bO (jB (jf (cT (cy (aL c_are_numbers hr (ag (ae 0) (ag (ae 1) af))))) (gP (bo (kK (jX hr)) (ae 1) (eE af))))) (ao (aw eK)) ba));refine @ak _ _ _ _ _ ?_ ?_;(focus exact(aA (aB (aB (ae 0) (aB (ae 1) ai)) ai) (am 2 sc_leads_round.nd)));exact ao (aw (aL c_leads hr (ag (ae 0) (ag (ae 2) (ag (ae 2) (ag (ae 1) af))))))))
abbrev jg:Stmt:=top 38
theorem rL:ay ["limits","walk"] ["limits","walk"] (aj jg):=⟨rfl,rfl,rfl,by decide+kernel,rfl,by decide+kernel,by decide+kernel⟩
theorem rP (F:fJ K mg "sum_of" jg ["limits","walk"])(B:Bl mg):Cl P w K mg base 1 "sum_of" 2 iY:=
 aX F rL rfl λf cdv A outer s H E hr xe=>(ao (aw (bD (Ah rfl) B.b_sum boot_sum (ag (fz (N':=["number","limits"]) (src:=[none,some 0]) rfl (LcScope.by (N:=["limits","walk"]) (names:=(aj jg).names) rfl rfl rfl (by decide+kernel)) (cU (ae 1)) (λ_ _ _ _ _=>⟨(am 0 (show List.Nodup (["number","limits"]:List Str)by decide+kernel)),ci,(aB (aB (ae 1) (ae 0)) ai)⟩)) af))))
abbrev qx:Stmt:=top 48
theorem sc_bars:ay ["record","thing","limits"] ["record","thing"] (aj qx):=⟨rfl,rfl,rfl,by decide+kernel,rfl,by decide+kernel,by decide+kernel⟩
theorem wZ (F:fJ K mg "bars" qx ["record","thing"])(c_bounds:Cl P w K mg base 8 "bounds" 1 bj)(c_leads_round:Cl P w K mg base 5 "leads_round" 2 cZ)(c_sum_of:Cl P w K mg base 1 "sum_of" 2 iY):Cl P w K mg base 9 "bars" 2 eJ:=
 aX F sc_bars rfl λf cdv A outer s H E hr xe=>(ak (aA (aL c_bounds hr (ag (ae 0) af)) (am 2 sc_bars.nd)) (ao (aw (cJ (aL c_leads_round hr (ag (ae 2) (ag (ae 1) af))) (cN (dv qE (aL c_sum_of hr (ag (ae 2) (ag (ae 1) af))) ai))))))
abbrev gu:Stmt:=top 25
theorem kE:ay ["many","thing"] ["many","thing"] (aj gu):=⟨rfl,rfl,rfl,by decide+kernel,rfl,by decide+kernel,by decide+kernel⟩
theorem kM (F:fJ K mg "need_number" gu ["many","thing"])(c_is_within:Cl P w K mg base 2 "is_within" 3 aH){C_NoRecord C_NoNumber C_ClockError:Addr}(S:Xs K mg C_NoRecord C_NoNumber C_ClockError):Cl P w K mg base 3 "need_number" 2 dU:=
 aX F kE rfl λf cdv A outer s H E hr xe=>(ao (bO (cT (cy (aL c_is_within hr (ag (ae 1) (ag ai (ag (aq eI (ae 0) ai) af)))))) (ao (lN S.o_NoNumber S.m_NoNumber)) ba))
abbrev iM:Stmt:=top 31
theorem sc_of_letter:ay ["record","number","letters","start"] ["record","number"] (aj iM):=⟨rfl,rfl,rfl,by decide+kernel,rfl,by decide+kernel,by decide+kernel⟩
theorem m6 (F:fJ K mg "of_letter" iM ["record","number"])(c_need_record:Cl P w K mg base 7 "need_record" 1 bF)(c_need_number:Cl P w K mg base 3 "need_number" 2 dU)(c_bounds:Cl P w K mg base 8 "bounds" 1 bj)(c_bounds_of_letter:Cl P w K mg base 1 "bounds_of_letter" 1 aV)(B:Bl mg):Cl P w K mg base 9 "of_letter" 2 cO:=
 aX F sc_of_letter rfl λf cdv A outer s H E hr xe=>(by(refine @ak _ _ _ _ _ ?_ ?_;(focus exact(iD (aL c_need_record hr (ag (ae 0) af))));refine @ak _ _ _ _ _ ?_ ?_;(focus exact(aA (aB (ae 0) ai) (am 2 sc_of_letter.nd)));refine @ak _ _ _ _ _ ?_ ?_;(focus exact(iD (aL c_need_number hr (ag (bD bA B.b_len boot_len (ag (ae 2) af)) (ag (ae 1) af)))));refine @ak _ _ _ _ _ ?_ ?_;(focus exact(aA (bD bA B.b_len boot_len (ag (aL c_bounds hr (ag (bP (ag (aB (ae 0) ai) (ag (gp (ae 2) gk (gh (ae 1))) af))) af)) af)) (am 3 sc_of_letter.nd)));exact ao (aw (lO rfl B.b_list B.b_range (ag (ae 3) (ag (aq aK (ae 3) (bD bA B.b_len boot_len (ag (aL c_bounds_of_letter hr (ag (aB (ae 2) (ae 1)) af)) af))) af))))))
abbrev mJ:Stmt:=top 56
theorem sc_law:ay ["_law_script","_law_record_here","_law_last","_law_many","_law_here","_law_times","_law_told","_law_own","_law_number","_law_alone","_law_row","_law_letters","_law_k","_law_one","_law_other","_law_far"] ["_law_script"] (aj mJ):=⟨rfl,rfl,rfl,by decide+kernel,rfl,by decide+kernel,by decide+kernel⟩
theorem zy {f:Addr}{fd:FuncData}(Fn_law:Fn K mg "law" mJ ["_law_script"] f fd)(c__law_record:Cl P w K mg base 4 "_law_record" 3 dW)(c_events:Cl P w K mg base 8 "events" 1 ck)(c_is_world:Cl P w K mg base 10 "is_world" 2 dj)(c_world:Cl P w K mg base 10 "world" 1 dS)(c_barring:Cl P w K mg base 9 "barring" 1 eY)(c__law_drawn:Cl P w K mg base 2 "_law_drawn" 3 au)(c_has_world:Cl P w K mg base 11 "has_world" 1 dn)(c_bars:Cl P w K mg base 9 "bars" 2 eJ)(c_of_letter:Cl P w K mg base 9 "of_letter" 2 cO)(c_bounds:Cl P w K mg base 8 "bounds" 1 bj)(B:Bl mg):Aq P w K mg base 12 f fd ["_law_script"] 1 m_law:=
 qu Fn_law.fn sc_law rfl λcdv A outer s H E hr xe=>(by(refine @ak _ _ _ _ _ ?_ ?_;(focus exact(aA (aL c__law_record hr (ag (ae 0) (ag ai (ag ai af)))) (am 1 sc_law.nd)));refine @ak _ _ _ _ _ ?_ ?_;(focus exact(aA cj (am 2 sc_law.nd)));refine @ak _ _ _ _ _ ?_ ?_;(focus exact(dh rfl (cU (yu (lO rfl B.b_list B.b_range (ag (aq aK (bD bA B.b_len boot_len (ag (aB (ae 1) ai) af)) ai) af)))) (am 3 sc_law.nd) (by(refine @ak _ _ _ _ _ ?_ ?_;(focus exact(aA (bP (ag (aB (ae 1) ai) (ag (gp (aB (ae 1) ai) gk (gh (ae 3))) af))) (am 4 sc_law.nd)));refine @ak _ _ _ _ _ ?_ ?_;(focus exact(aA (aL c_world hr (ag (ae 4) af)) (am 5 sc_law.nd)));refine @ak _ _ _ _ _ ?_ ?_;(focus exact(aA (aL c_barring hr (ag (ae 4) af)) (am 6 sc_law.nd)));refine @ak _ _ _ _ _ ?_ ?_;(focus exact(bO (jB (jf (bo (kK (jX hr)) (dv jH (ae 5) cj) (dv jH (ae 6) cj)) (gP (bo (oH (jX hr)) (aL c_has_world hr (ag (ae 4) af)) (dv jH (ae 6) cj))))) (ao (aw eK)) ba));refine @ak _ _ _ _ _ ?_ ?_;(focus exact(bO (jB (qo (bo fP (ae 2) cj) (nU (cT (cy (aL c_is_world hr (ag (ae 4) (ag (ae 2) af)))))))) (ao (aw eK)) ba));refine @ak _ _ _ _ _ ?_ ?_;(focus exact(bO (bo fP (ae 6) cj) (by(refine @ak _ _ _ _ _ ?_ ?_;(focus exact(bO (jB (jf (cT (cy (aL c_bars hr (ag (ae 4) (ag (ae 6) af))))) (gP (bo (oH (jX hr)) (aL c_bars hr (ag (ae 4) (ag (aq aK (gp (ae 6) (gh ai) gk) (gp (ae 6) gk (gh ai))) af))) eK)))) (ao (aw eK)) ba));refine @ak _ _ _ _ _ ?_ ?_;(focus exact(aA (eE af) (am 7 sc_law.nd)));refine @ak _ _ _ _ _ ?_ ?_;(focus exact(dh rfl (ca B.b_range (ag (ae 3) af)) (am 8 sc_law.nd) (ao (aA (aq aK (ae 7) (aL c_of_letter hr (ag (ae 4) (ag (ae 8) af)))) (am 7 sc_law.nd)))));exact ao (bO (bo (kK (jX hr)) (fz (N':=["_law_number","_law_own"]) (src:=[none,some 7]) rfl (LcScope.by (N:=["_law_script","_law_record_here","_law_last","_law_many","_law_here","_law_times","_law_told","_law_own","_law_number","_law_alone","_law_row","_law_letters","_law_k","_law_one","_law_other","_law_far"]) (names:=(aj mJ).names) rfl rfl rfl (by decide+kernel)) (cU (ae 6)) (λ_ _ _ _ _=>⟨(am 0 (show List.Nodup (["_law_number","_law_own"]:List Str)by decide+kernel)),(kt (bo (ya (zW hr)) (ae 0) (ae 1))),(ae 0)⟩)) (eE af)) (ao (aw eK)) ba))) ba));refine @ak _ _ _ _ _ ?_ ?_;(focus exact(aA (ae 5) (am 2 sc_law.nd)));refine @ak _ _ _ _ _ ?_ ?_;(focus exact(sP 9 (N':=["_law_number","_law_here"]) (src:=[none,some 4]) rfl (LcScope.by (N:=["_law_script","_law_record_here","_law_last","_law_many","_law_here","_law_times","_law_told","_law_own","_law_number","_law_alone","_law_row","_law_letters","_law_k","_law_one","_law_other","_law_far"]) (names:=(aj mJ).names) rfl rfl rfl (by decide+kernel)) (ca B.b_range (ag (bD bA B.b_len boot_len (ag (aL c_bounds hr (ag (ae 4) af)) af)) af)) (λ_ _ _ _ _=>⟨(am 0 (show List.Nodup (["_law_number","_law_here"]:List Str)by decide+kernel)),(kt (cy (aL c_bars hr (ag (ae 1) (ag (eE (ag (ae 0) af)) af))))),(ae 0)⟩) sc_law.nd));exact ao (bO (jB (qo (bo fP (ae 2) cj) (nU (bo (oH (jX hr)) (ae 9) (eE af))))) (ao (aw eK)) ba)))));refine @ak _ _ _ _ _ ?_ ?_;(focus exact(bO (bo jH (ae 2) cj) (ao (aw eK)) ba));refine @ak _ _ _ _ _ ?_ ?_;(focus exact(aA (aL c_events hr (ag (ae 1) af)) (am 10 sc_law.nd)));refine @ak _ _ _ _ _ ?_ ?_;(focus exact(gg 11 sc_law.nd af));refine @ak _ _ _ _ _ ?_ ?_;(focus exact(dh rfl (ca B.b_range (ag (bD (Ai rfl) B.b_min boot_min (ag ai (ag (aq eI (bD bA B.b_len boot_len (ag (ae 10) af)) ai) af))) af)) (am 12 sc_law.nd) (by(refine @ak _ _ _ _ _ ?_ ?_;(focus exact(aA (aL c__law_drawn hr (ag (ae 0) (ag (aq aK ai (aq cV ai (ae 12))) (ag (bD bA B.b_len boot_len (ag (ae 10) af)) af)))) (am 13 sc_law.nd)));refine @ak _ _ _ _ _ ?_ ?_;(focus exact(aA (aq gz (aq aK (aq aK (ae 13) ai) (aL c__law_drawn hr (ag (ae 0) (ag (aq aK ai (aq cV ai (ae 12))) (ag (aq eI (bD bA B.b_len boot_len (ag (ae 10) af)) ai) af))))) (bD bA B.b_len boot_len (ag (ae 10) af))) (am 14 sc_law.nd)));refine @ak _ _ _ _ _ ?_ ?_;(focus exact(aA (aq eI (aB (ae 2) (ae 14)) (aB (ae 2) (ae 13))) (am 15 sc_law.nd)));exact ao (bO (bo Bh (ae 15) ai) (ao (j7 11 (bP (ag (aB (ae 10) (ae 13)) (ag (aB (ae 10) (ae 14)) (ag (ae 15) (ag (ae 15) af))))))) ba)))));exact ao (aw (aL c_is_world hr (ag (bP (ag (aB (ae 1) ai) (ag (xS 11 (nX jb B.b_tuple c8 (ag (ae 11) af))) af))) (ag (ae 2) af))))))
end
@[elab_as_elim] theorem fE {α:Type} {p:List α->Prop} (h:∀a0,p [a0]):∀us:List α,us.length=1->p us
 | [a0],_=>h a0
@[elab_as_elim] theorem dt {α:Type} {p:List α->Prop} (h:∀a0 a1,p [a0,a1]):∀us:List α,us.length=2->p us
 | [a0,a1],_=>h a0 a1
@[elab_as_elim] theorem l8 {α:Type} {p:List α->Prop} (h:∀a0 a1 a2,p [a0,a1,a2]):∀us:List α,us.length=3->p us
 | [a0,a1,a2],_=>h a0 a1 a2
@[elab_as_elim] theorem Bs {α:Type} {p:List α->Prop} (h:∀a0 a1 a2 a3,p [a0,a1,a2,a3]):∀us:List α,us.length=4->p us
 | [a0,a1,a2,a3],_=>h a0 a1 a2 a3
def asks:sJ:=⟨([("_law_cell",50),("_law_drawn",51),("_law_events",54),("_law_letter",53),("_law_clock",52),("_law_record",55),("is_long",13),("is_whole",11),("is_within",12),("is_pace",16),("rises",14),("are_readings",15),("is_clock",17),("are_clocks",18),("is_event",19)]:List (Str×Nat))++([("is_delay",20),("is_letter",21),("are_letters",22),("is_record",23),("need_record",24),("events",26),("are_times",32),("bounds_of_clock",28),("bounds_of_letter",29),("bounds",30),("holds",33),("broken",34),("is_world",35),("is_better",42),("settle",41)]:List (Str×Nat))++([("greatest_world",44),("world",45),("barring",47),("has_world",46),("are_numbers",37),("leads",39),("leads_round",40),("sum_of",38),("bars",48),("need_number",25),("of_letter",31),("law",56)]:List (Str×Nat)),(["all","bool","dict","enumerate","int","isinstance","len","list","min","range","sum","tuple","zip"]:List Str),[("MOST_CLOCKS",4),("MOST_LETTERS",8),("MOST_READINGS",4),("LAST_READING",99),("SLOWEST",9),("LONGEST",999)],["ClockError","NoRecord","NoNumber"]⟩
theorem all_ok {l:PySem.W.OpenLaw}{w:World}{K:PySem.W.Frag}{h:Heap}{mg:Str->Option Value}{fa:Addr}(X:K.In h)(e:lL asks K=lF asks top)(G:h.Ns mainGlobals mg)(hfa:mg "law" =some (.ref fa)) :
  ∃fd:FuncData,(∀(s:Shared) (v:Value),BindsTo s fd ⟨[v],[]⟩ [("_law_script",v)])/\∀base:Heap,K.In base->base.Ns mainGlobals mg->nQ l.prog w K mg base CX0 12 fa fd ["_law_script"] (spP K 1 m_law):=by
 have B:Bl mg:=⟨dN 0 X G e rfl,dN 1 X G e rfl,dN 2 X G e rfl,dN 3 X G e rfl,dN 4 X G e rfl,dN 5 X G e rfl,dN 6 X G e rfl,dN 7 X G e rfl,dN 8 X G e rfl,dN 9 X G e rfl,dN 10 X G e rfl,dN 11 X G e rfl,dN 12 X G e rfl⟩
 have C:Cs mg:=⟨mf 0 X G e rfl,mf 1 X G e rfl,mf 2 X G e rfl,mf 3 X G e rfl,mf 4 X G e rfl,mf 5 X G e rfl⟩;obtain⟨C_ClockError,ls,xD,xl,nd⟩:=zA (BF e);obtain⟨C_NoRecord,ls0,x_NoRecord,rfl,xl0⟩:=mF xl;obtain⟨C_NoNumber,ls1,x_NoNumber,rfl,xl1⟩:=mF xl0;cases vq xl1
 have S:Xs K mg C_NoRecord C_NoNumber C_ClockError:=⟨PySem.W.mg_of X G (jk x_NoRecord).1,PySem.W.mg_of X G (jk x_NoNumber).1,PySem.W.mg_of X G (jk xD).1,ox1 x_NoRecord xD,ox1 x_NoNumber xD,ox0 xD,nd⟩
 have eC:=cp (n:="_law_cell") (i:=50) (ps:=["_law_script","_law_k"]) 0 X G e rfl λ_ _ _ _ _ _ us hl=>dt (λ_ _=>rfl) us hl
 have dG:=cp (n:="_law_drawn") (i:=51) (ps:=["_law_script","_law_k","_law_many"]) 1 X G e rfl λ_ _ _ _ _ _ us hl=>l8 (λ_ _ _=>rfl) us hl
 have dY:=cp (n:="_law_events") (i:=54) (ps:=["_law_clocks"]) 2 X G e rfl λ_ _ _ _ _ _ us hl=>fE (λ_=>rfl) us hl
 have ce:=cp (n:="_law_letter") (i:=53) (ps:=["_law_script","_law_at","_law_clocks"]) 3 X G e rfl λ_ _ _ _ _ _ us hl=>l8 (λ_ _ _=>rfl) us hl
 have dH:=cp (n:="_law_clock") (i:=52) (ps:=["_law_script","_law_at"]) 4 X G e rfl λ_ _ _ _ _ _ us hl=>dt (λ_ _=>rfl) us hl
 have dg:=cp (n:="_law_record") (i:=55) (ps:=["_law_script","_law_at","_law_most"]) 5 X G e rfl λ_ _ _ _ _ _ us hl=>l8 (λ_ _ _=>rfl) us hl
 have hV:=cp (n:="is_long") (i:=13) (ps:=["thing","least","most"]) 6 X G e rfl λ_ _ _ _ _ _ us hl=>l8 (λ_ _ _=>rfl) us hl
 have iC:=cp (n:="is_whole") (i:=11) (ps:=["thing"]) 7 X G e rfl λ_ _ _ _ _ _ us hl=>fE (λ_=>rfl) us hl
 have eg:=cp (n:="is_within") (i:=12) (ps:=["thing","least","most"]) 8 X G e rfl λ_ _ _ _ _ _ us hl=>l8 (λ_ _ _=>rfl) us hl
 have fU:=cp (n:="is_pace") (i:=16) (ps:=["slow","fast"]) 9 X G e rfl λ_ _ _ _ _ _ us hl=>dt (λ_ _=>rfl) us hl
 have kr:=cp (n:="rises") (i:=14) (ps:=["numbers"]) 10 X G e rfl λ_ _ _ _ _ _ us hl=>fE (λ_=>rfl) us hl
 have cu:=cp (n:="are_readings") (i:=15) (ps:=["thing"]) 11 X G e rfl λ_ _ _ _ _ _ us hl=>fE (λ_=>rfl) us hl
 have dR:=cp (n:="is_clock") (i:=17) (ps:=["thing"]) 12 X G e rfl λ_ _ _ _ _ _ us hl=>fE (λ_=>rfl) us hl
 have dF:=cp (n:="are_clocks") (i:=18) (ps:=["thing"]) 13 X G e rfl λ_ _ _ _ _ _ us hl=>fE (λ_=>rfl) us hl
 have dP:=cp (n:="is_event") (i:=19) (ps:=["clocks","thing"]) 14 X G e rfl λ_ _ _ _ _ _ us hl=>dt (λ_ _=>rfl) us hl
 have dQ:=cp (n:="is_delay") (i:=20) (ps:=["least","most"]) 15 X G e rfl λ_ _ _ _ _ _ us hl=>dt (λ_ _=>rfl) us hl
 have cx:=cp (n:="is_letter") (i:=21) (ps:=["clocks","thing"]) 16 X G e rfl λ_ _ _ _ _ _ us hl=>dt (λ_ _=>rfl) us hl
 have df:=cp (n:="are_letters") (i:=22) (ps:=["clocks","thing"]) 17 X G e rfl λ_ _ _ _ _ _ us hl=>dt (λ_ _=>rfl) us hl
 have du:=cp (n:="is_record") (i:=23) (ps:=["thing"]) 18 X G e rfl λ_ _ _ _ _ _ us hl=>fE (λ_=>rfl) us hl
 have c9:=cp (n:="need_record") (i:=24) (ps:=["thing"]) 19 X G e rfl λ_ _ _ _ _ _ us hl=>fE (λ_=>rfl) us hl
 have gL:=cp (n:="events") (i:=26) (ps:=["record"]) 20 X G e rfl λ_ _ _ _ _ _ us hl=>fE (λ_=>rfl) us hl
 have ez:=cp (n:="are_times") (i:=32) (ps:=["record","thing"]) 21 X G e rfl λ_ _ _ _ _ _ us hl=>dt (λ_ _=>rfl) us hl
 have bZ:=cp (n:="bounds_of_clock") (i:=28) (ps:=["number","clock"]) 22 X G e rfl λ_ _ _ _ _ _ us hl=>dt (λ_ _=>rfl) us hl
 have bM:=cp (n:="bounds_of_letter") (i:=29) (ps:=["letter"]) 23 X G e rfl λ_ _ _ _ _ _ us hl=>fE (λ_=>rfl) us hl
 have gO:=cp (n:="bounds") (i:=30) (ps:=["record"]) 24 X G e rfl λ_ _ _ _ _ _ us hl=>fE (λ_=>rfl) us hl
 have nS:=cp (n:="holds") (i:=33) (ps:=["bound","time_of"]) 25 X G e rfl λ_ _ _ _ _ _ us hl=>dt (λ_ _=>rfl) us hl
 have gM:=cp (n:="broken") (i:=34) (ps:=["record","times"]) 26 X G e rfl λ_ _ _ _ _ _ us hl=>dt (λ_ _=>rfl) us hl
 have iB:=cp (n:="is_world") (i:=35) (ps:=["record","thing"]) 27 X G e rfl λ_ _ _ _ _ _ us hl=>dt (λ_ _=>rfl) us hl
 have et:=cp (n:="is_better") (i:=42) (ps:=["best","bound","ahead"]) 28 X G e rfl λ_ _ _ _ _ _ us hl=>l8 (λ_ _ _=>rfl) us hl
 have fy:=cp (n:="settle") (i:=41) (ps:=["limits","starts"]) 29 X G e rfl λ_ _ _ _ _ _ us hl=>dt (λ_ _=>rfl) us hl
 have cr:=cp (n:="greatest_world") (i:=44) (ps:=["record","limits"]) 30 X G e rfl λ_ _ _ _ _ _ us hl=>dt (λ_ _=>rfl) us hl
 have nR:=cp (n:="world") (i:=45) (ps:=["record"]) 31 X G e rfl λ_ _ _ _ _ _ us hl=>fE (λ_=>rfl) us hl
 have jA:=cp (n:="barring") (i:=47) (ps:=["record"]) 32 X G e rfl λ_ _ _ _ _ _ us hl=>fE (λ_=>rfl) us hl
 have gK:=cp (n:="has_world") (i:=46) (ps:=["record"]) 33 X G e rfl λ_ _ _ _ _ _ us hl=>fE (λ_=>rfl) us hl
 have de:=cp (n:="are_numbers") (i:=37) (ps:=["limits","thing"]) 34 X G e rfl λ_ _ _ _ _ _ us hl=>dt (λ_ _=>rfl) us hl
 have gc:=cp (n:="leads") (i:=39) (ps:=["limits","one","other","thing"]) 35 X G e rfl λ_ _ _ _ _ _ us hl=>Bs (λ_ _ _ _=>rfl) us hl
 have db:=cp (n:="leads_round") (i:=40) (ps:=["limits","thing"]) 36 X G e rfl λ_ _ _ _ _ _ us hl=>dt (λ_ _=>rfl) us hl
 have gJ:=cp (n:="sum_of") (i:=38) (ps:=["limits","walk"]) 37 X G e rfl λ_ _ _ _ _ _ us hl=>dt (λ_ _=>rfl) us hl
 have lE:=cp (n:="bars") (i:=48) (ps:=["record","thing"]) 38 X G e rfl λ_ _ _ _ _ _ us hl=>dt (λ_ _=>rfl) us hl
 have da:=cp (n:="need_number") (i:=25) (ps:=["many","thing"]) 39 X G e rfl λ_ _ _ _ _ _ us hl=>dt (λ_ _=>rfl) us hl
 have ef:=cp (n:="of_letter") (i:=31) (ps:=["record","number"]) 40 X G e rfl λ_ _ _ _ _ _ us hl=>dt (λ_ _=>rfl) us hl
 obtain⟨fd41,Fn_law,bnd⟩:=BA (n:="law") (i:=56) (x:="_law_script") 41 X G e rfl hfa λ_ _ _ _ _ _ _=>rfl
 refine⟨fd41,bnd,λbase _ _=> ?_⟩
 have c__law_cell:=nh (P:=l.prog) (w:=w) (base:=base) eC B
 have c__law_drawn:=lJ (P:=l.prog) (w:=w) (base:=base) dG c__law_cell
 have c__law_events:=kS (P:=l.prog) (w:=w) (base:=base) dY B
 have c__law_letter:=kR (P:=l.prog) (w:=w) (base:=base) ce c__law_events c__law_drawn B
 have c__law_clock:=lK (P:=l.prog) (w:=w) (base:=base) dH c__law_drawn B
 have c__law_record:=kQ (P:=l.prog) (w:=w) (base:=base) dg c__law_drawn c__law_letter c__law_clock B
 have c_is_long:=pW (P:=l.prog) (w:=w) (base:=base) hV B
 have c_is_whole:=oK (P:=l.prog) (w:=w) (base:=base) iC B
 have c_is_within:=m7 (P:=l.prog) (w:=w) (base:=base) eg c_is_whole
 have c_is_pace:=pV (P:=l.prog) (w:=w) (base:=base) fU c_is_within C
 have c_rises:=ug (P:=l.prog) (w:=w) (base:=base) kr B
 have c_are_readings:=jT (P:=l.prog) (w:=w) (base:=base) cu c_is_long c_rises c_is_within B C
 have c_is_clock:=oO (P:=l.prog) (w:=w) (base:=base) dR c_is_long c_is_pace c_are_readings
 have c_are_clocks:=lI (P:=l.prog) (w:=w) (base:=base) dF c_is_long c_is_clock B C
 have c_is_event:=oM (P:=l.prog) (w:=w) (base:=base) dP c_is_within c_is_long B
 have c_is_delay:=oN (P:=l.prog) (w:=w) (base:=base) dQ c_is_within C
 have c_is_letter:=m9 (P:=l.prog) (w:=w) (base:=base) cx c_is_event c_is_long c_is_delay
 have c_are_letters:=kP (P:=l.prog) (w:=w) (base:=base) df c_is_long c_is_letter B C
 have c_is_record:=m8 (P:=l.prog) (w:=w) (base:=base) du c_is_long c_are_clocks c_are_letters
 have c_need_record:=kL (P:=l.prog) (w:=w) (base:=base) c9 c_is_record S
 have c_events:=rR (P:=l.prog) (w:=w) (base:=base) gL c_need_record B
 have c_are_times:=ng (P:=l.prog) (w:=w) (base:=base) ez c_events c_is_long c_is_whole B
 have c_bounds_of_clock:=iu (P:=l.prog) (w:=w) (base:=base) bZ B
 have c_bounds_of_letter:=hW (P:=l.prog) (w:=w) (base:=base) bM
 have c_bounds:=rV (P:=l.prog) (w:=w) (base:=base) gO c_need_record c_bounds_of_clock c_bounds_of_letter B
 have c_holds:=ui (P:=l.prog) (w:=w) (base:=base) nS
 have c_broken:=rS (P:=l.prog) (w:=w) (base:=base) gM c_events c_bounds c_holds B
 have c_is_world:=oJ (P:=l.prog) (w:=w) (base:=base) iB c_are_times c_broken
 have c_is_better:=na (P:=l.prog) (w:=w) (base:=base) et
 have c_settle:=rQ (P:=l.prog) (w:=w) (base:=base) fy c_is_better B
 have c_greatest_world:=iW (P:=l.prog) (w:=w) (base:=base) cr c_events c_settle B
 have c_world:=ue (P:=l.prog) (w:=w) (base:=base) nR c_greatest_world c_bounds
 have c_barring:=pX (P:=l.prog) (w:=w) (base:=base) jA c_settle c_bounds c_events
 have c_has_world:=nc (P:=l.prog) (w:=w) (base:=base) gK c_world
 have c_are_numbers:=kO (P:=l.prog) (w:=w) (base:=base) de c_is_within B
 have c_leads:=uh (P:=l.prog) (w:=w) (base:=base) gc c_are_numbers
 have c_leads_round:=kN (P:=l.prog) (w:=w) (base:=base) db c_leads c_are_numbers
 have c_sum_of:=rP (P:=l.prog) (w:=w) (base:=base) gJ B
 have c_bars:=wZ (P:=l.prog) (w:=w) (base:=base) lE c_bounds c_leads_round c_sum_of
 have c_need_number:=kM (P:=l.prog) (w:=w) (base:=base) da c_is_within S
 have c_of_letter:=m6 (P:=l.prog) (w:=w) (base:=base) ef c_need_record c_need_number c_bounds c_bounds_of_letter B;exact(zy (P:=l.prog) (w:=w) (base:=base) Fn_law c__law_record c_events c_is_world c_world c_barring c__law_drawn c_has_world c_bars c_of_letter c_bounds B).h
def vw:Program:=PySem.W.view PySem.Challenge.pw_farclocks_k23_whole_one_or_the_other [56]
def lse:List Str:=(["ClockError","NoRecord","NoNumber","MOST_CLOCKS","MOST_LETTERS","MOST_READINGS","LAST_READING","SLOWEST","LONGEST","is_whole","is_within","is_long","rises","are_readings","is_pace","is_clock","are_clocks","is_event","is_delay","is_letter"]:List Str)++(["are_letters","is_record","need_record","need_number","events","bounds_of_clock","bounds_of_letter","bounds","of_letter","are_times","holds","broken","is_world","are_numbers","sum_of","leads","leads_round","settle","is_better","greatest_world"]:List Str)++(["world","has_world","barring","bars","_law_cell","_law_drawn","_law_clock","_law_letter","_law_events","_law_record"]:List Str)
def lhs (w:World)(h:Heap)(d:Drawn)(t:Nat)(os:OsState):=(PySem.W.topFrom treeTable PySem.Challenge.pw_farclocks_k23_whole_one_or_the_other w 9000 ⟨h,⟨[]⟩,d,t,os⟩).map (λs=>(PySem.W.openSeen vw lse (importedModules PySem.Challenge.pw_farclocks_k23_whole_one_or_the_other.main.body) (λ_=>true) true s,lL asks (uY s.heap)))
def rhs (w:World):=some (PySem.W.openGood vw lse,lF asks top)
theorem lhs_r:lhs=lhs:=rfl
theorem rhs_r:rhs=rhs:=rfl
end G
namespace Tr
open PySem
mutual
def T.pl:T->Bool
 | .scr _=>false
 | .dct _ _=>false
 | .tup l=>plS l
 | .lst l=>plS l
 | _=>true
def plS:List T->Bool
 | [] =>true
 | t::l=>t.pl&&plS l
end
theorem fZ:∀{l:List T} {t:T},plS l=true->t∈l->t.pl=true
 | [],_,_,h=>by cases h
 | u::l,t,h,m=>by
  unfold plS at h;rw[Bool.and_eq_true]at h;rcases List.mem_cons.mp m with rfl | m
  ·exact h.1
  ·exact fZ h.2 m
mutual
theorem T.pl_nd:∀(t:T),t.pl=true->t.nd=true
 | .non,_=>rfl
 | .bl _,_=>rfl
 | .int _,_=>rfl
 | .str _,_=>rfl
 | .scr _,h=>by cases h
 | .dct _ _,h=>by cases h
 | .tup l,h=>by unfold T.pl at h;unfold T.nd;exact plS_nds l h
 | .lst l,h=>by unfold T.pl at h;unfold T.nd;exact plS_nds l h
theorem plS_nds:∀(l:List T),plS l=true->nds l=true
 | [],_=>rfl
 | t::l,h=>by
  unfold plS at h;rw[Bool.and_eq_true]at h;unfold nds;rw[T.pl_nd t h.1,plS_nds l h.2];rfl
end
theorem p7 {fe:En->Rs T}{h:T->T}:∀(ts:List T) (Z:En),0<Z.length->(∀t∈ts,fe (Z.set 0 (.va t))= .ok (h t))->cL (gN 0) bT fe ts Z= .ok (ts.map h)
 | [],_,_,_=>rfl
 | t::r,Z,hl,hf=>by
  unfold cL
  have e1:gN 0 t Z= .ok (Z.set 0 (.va t)):=by unfold gN;rw[if_pos hl]
  have ih:=p7 r (Z.set 0 (.va t)) (by rw[List.length_set];exact hl) (λu hu=>by rw[List.set_set];exact hf u (List.mem_cons_of_mem _ hu))
  simp only[e1,aC,bT,if_true,hf t List.mem_cons_self,ih,List.map_cons]
theorem l9 {fc:En->Rs Bool}{fe:En->Rs T}{p:T->Bool}{h:T->T}:∀(ts:List T) (Z:En),0<Z.length->(∀t∈ts,fc (Z.set 0 (.va t))= .ok (p t)/\(p t=true->fe (Z.set 0 (.va t))= .ok (h t)))->cL (gN 0) fc fe ts Z= .ok ((ts.filter p).map h)
 | [],_,_,_=>rfl
 | t::r,Z,hl,hf=>by
  unfold cL
  have e1:gN 0 t Z= .ok (Z.set 0 (.va t)):=by unfold gN;rw[if_pos hl]
  have ih:=l9 r (Z.set 0 (.va t)) (by rw[List.length_set];exact hl) (λu hu=>by rw[List.set_set];exact hf u (List.mem_cons_of_mem _ hu))
  obtain⟨h1,h2⟩:=hf t List.mem_cons_self;simp only[e1,aC,h1]
  cases q:p t with
  | true=>simp only[if_true,h2 q,aC,ih,List.filter_cons,q,List.map_cons]
  | false=>simp only[Bool.false_eq_true,if_false,ih,List.filter_cons,q]
theorem mw (p:T->Bool):∀l:List T,lx (l.map λt=>T.bl (p t))=some (l.map p)
 | [] =>rfl
 | t::l=>by rw[List.map_cons,lx,mw p l];rfl
theorem all_map (p:T->Bool)(l:List T):j5 [.lst (l.map λt=>T.bl (p t))] = .ok (.bl (l.all p)):=by
 simp only[j5,mw,List.all_map]
 rfl
theorem iA {α:Type}{l:List α}{k:Nat}{t:α}(h:l[k]? =some t):L2.atI l (k:Int)=some t:=by
 have hk:k<l.length:=(List.getElem?_eq_some_iff.mp h).1
 unfold L2.atI L2.ixN;rw[if_pos (by omega),if_pos (by omega),Int.toNat_natCast]
 exact h
theorem az {n k:Nat}(h:n<=k)(hk:k<=1000:=by decide):n<=sizeLine:=by unfold sizeLine;omega
section
variable {f fa fb fc:En->Rs T}{fs:En->Rs (List T)}{b c:En->Rs Bool}{F G:En->Rs Fl}{Z Z' Z1 Z2:En}{t u r:T}{ts l m:List T}
theorem aD {g:T->T->Rs T}{x:Rs T}(ha:fa Z= .ok t)(hb:fb Z= .ok u)(hg:g t u=x):o2 g fa fb Z=x:=by unfold o2;rw[ha,hb];exact hg
theorem zN {g:T->Rs T}{x:Rs T}(ha:fa Z= .ok t)(hg:g t=x):o1 g fa Z=x:=by unfold o1;rw[ha];exact hg
theorem Bx {g:T->T->Rs T}{x:Rs T}{ks vs:List T}(ha:fa Z= .ok (.dct ks vs))(hb:fb Z= .ok u)(hg:g (.dct ks vs) u=x):oD g fa fb Z=x:=by unfold oD;rw[ha];show(fb Z >>= g (.dct ks vs))=_;rw[hb];exact hg
theorem k_oL {g:T->T->Rs T}{x:Rs T}{ks:List T}(ha:fa Z= .ok (.lst ks))(hb:fb Z= .ok u)(hg:g (.lst ks) u=x):oL g fa fb Z=x:=by unfold oL;rw[ha];show(fb Z >>= g (.lst ks))=_;rw[hb];exact hg
theorem ap (h:f Z= .ok t)(hs:fs Z= .ok ts):ac f fs Z= .ok (t::ts):=by unfold ac;rw[h,hs];rfl
theorem aQ {g:List T->Rs T}{x:Rs T}(h:fs Z= .ok ts)(hg:g ts=x):cl g fs Z=x:=by unfold cl;rw[h];exact hg
theorem cA {k:Bool}(h:f Z= .ok (.bl k)):tb f Z= .ok k:=by unfold tb;rw[h];rfl
theorem ik {k:Bool}(h:b Z= .ok k):cD b Z= .ok (!k):=by unfold cD;rw[h];rfl
theorem ye (h:b Z= .ok true):jI b c Z= .ok true:=by unfold jI;rw[h];rfl
theorem qP {x:Rs Bool}(h:b Z= .ok false)(h2:c Z=x):jI b c Z=x:=by unfold jI;rw[h];exact h2
theorem uN (h:b Z= .ok false):lA b c Z= .ok false:=by unfold lA;rw[h];rfl
theorem uM {x:Rs Bool}(h:b Z= .ok true)(h2:c Z=x):lA b c Z=x:=by unfold lA;rw[h];exact h2
theorem qc (h:fa Z= .ok (.bl true)):bJ fa fb Z=fb Z:=by unfold bJ;rw[h];rfl
theorem ki (h:fa Z= .ok (.bl false)):bJ fa fb Z= .ok (.bl false):=by unfold bJ;rw[h];rfl
theorem qS {p q:Bool}(h:fa Z= .ok (.bl p))(h2:p=true->fb Z= .ok (.bl q)):bJ fa fb Z= .ok (.bl (p&&q)):=by
 cases p with
 | true=>rw[qc h,h2 rfl];rfl
 | false=>rw[ki h];rfl
theorem zL (h:fa Z= .ok (.bl true)):vG fa fb Z= .ok (.bl true):=by unfold vG;rw[h];rfl
theorem zM (h:fa Z= .ok (.bl false)):vG fa fb Z=fb Z:=by unfold vG;rw[h];rfl
theorem BE {p:Bool}(h:b Z= .ok p):Au b fa fb Z=if p then fa Z else fb Z:=by unfold Au;rw[h];rfl
theorem bz {g:T->En->Rs En}(h:f Z= .ok t)(hg:g t Z= .ok Z'):bN f g Z= .ok (.nx Z'):=by unfold bN;rw[h];show(match g t Z with | .ok Z'=>Rs.ok (Fl.nx Z') | _=> .bad)=_;rw[hg]
theorem ax (h:F Z= .ok (.nx Z')):ar F G Z=G Z':=by unfold ar;rw[h];rfl
theorem fI (h:F Z= .ok (.rt t)):ar F G Z= .ok (.rt t):=by unfold ar;rw[h];rfl
theorem uI (h:F Z= .ok (.ct Z')):ar F G Z= .ok (.ct Z'):=by unfold ar;rw[h];rfl
theorem fQ (h:b Z= .ok true):dL b F G Z=F Z:=by unfold dL;rw[h];rfl
theorem dB (h:b Z= .ok false):dL b F G Z=G Z:=by unfold dL;rw[h];rfl
theorem cF (h:f Z= .ok t):aF f Z= .ok (.rt t):=by unfold aF;rw[h];rfl
theorem xj (h:f Z= .ok t):v9 f Z= .ok (.nx Z):=by unfold v9;rw[h];rfl
theorem fR {fi:En->Rs (List T)}{g:T->En->Rs En}{x:Fl}(h:fi Z= .ok ts)(h2:aW g F ts Z= .ok x):fM fi g F Z= .ok x:=by unfold fM;rw[h];show(match aW g F ts Z with | .ok f=>Rs.ok f | _=> .bad)=_;rw[h2]
theorem dO {g:T->En->Rs En}(h:g t Z= .ok Z1)(h2:F Z1= .ok (.nx Z2)):aW g F (t::ts) Z=aW g F ts Z2:=by rw[aW,h];show(F Z1 >>= _)=_;rw[h2];rfl
theorem xi {g:T->En->Rs En}(h:g t Z= .ok Z1)(h2:F Z1= .ok (.ct Z2)):aW g F (t::ts) Z=aW g F ts Z2:=by rw[aW,h];show(F Z1 >>= _)=_;rw[h2];rfl
theorem qQ {g:T->En->Rs En}(h:g t Z= .ok Z1)(h2:F Z1= .ok (.rt r)):aW g F (t::ts) Z= .ok (.rt r):=by rw[aW,h];show(F Z1 >>= _)=_;rw[h2];rfl
theorem uF {n:Nat}(h:c Z= .ok false):bi c F (n+1) Z= .ok (.nx Z):=by unfold bi;rw[h]
theorem o4 {n:Nat}(h:c Z= .ok true)(h2:F Z= .ok (.nx Z')):bi c F (n+1) Z=bi c F n Z':=by rw[bi,h];simp only[h2]
theorem uE {n:Nat}(h:c Z= .ok true)(h2:F Z= .ok (.rt t)):bi c F (n+1) Z= .ok (.rt t):=by rw[bi,h];simp only[h2]
theorem bw {n m:Nat}(hl:ts.length=n)(h:F (aI m ts)= .ok (.rt t)):val n m F ts= .ok t:=by unfold val;rw[if_pos hl];unfold bf;rw[h];rfl
theorem uG {n m:Nat}(hl:ts.length=n)(h:F (aI m ts)= .ok (.nx Z)):val n m F ts= .ok .non:=by unfold val;rw[if_pos hl];unfold bf;rw[h];rfl
theorem o5 {fi:En->Rs (List T)}{src:List (Option Nat)}{fe:En->Rs T}{h:T->T}(hi:fi Z= .ok ts)(hs:ts.length<=sizeLine)(hn:0<src.length)(hf:∀t∈ts,fe ((cw src Z).set 0 (.va t))= .ok (h t)) :
  eU fi src (gN 0) bT fe Z= .ok (.lst (ts.map h)):=by
 have e:=p7 (fe:=fe) (h:=h) ts (cw src Z) (by unfold cw;rw[List.length_map];exact hn) hf
 unfold eU;rw[hi,aC,if_pos hs,e]
theorem yf {fi:En->Rs (List T)}{src:List (Option Nat)}{fc:En->Rs Bool}{fe:En->Rs T}{p:T->Bool}{h:T->T}(hi:fi Z= .ok ts)(hs:ts.length<=sizeLine)(hn:0<src.length)
  (hf:∀t∈ts,fc ((cw src Z).set 0 (.va t))= .ok (p t)/\(p t=true->fe ((cw src Z).set 0 (.va t))= .ok (h t))):eU fi src (gN 0) fc fe Z= .ok (.lst ((ts.filter p).map h)):=by
 have e:=l9 (fc:=fc) (fe:=fe) (p:=p) (h:=h) ts (cw src Z) (by unfold cw;rw[List.length_map];exact hn) hf
 unfold eU;rw[hi,aC,if_pos hs,e]
theorem dA (h:fs Z= .ok ts)(hl:ts.length<=sizeLine):bq fs Z= .ok (.tup ts):=by unfold bq;rw[h];show ii ts=_;unfold ii;rw[if_pos hl]
theorem gC (h:fs Z= .ok ts)(hl:ts.length<=sizeLine):c7 fs Z= .ok (.lst ts):=by unfold c7;rw[h];show ij ts=_;unfold ij;rw[if_pos hl]
theorem uK {f:En->Rs (List T)}{i:Nat}(h:f Z= .ok l)(hi:i<Z.length)(hl:l.length<=1000):gx i f Z= .ok (.nx (Z.set i (.ow (.lst l)))):=by
 unfold gx;rw[h,aC,if_pos ⟨hi,az hl (by omega)⟩]
theorem p9 {i:Nat}(hi:i<Z.length):gx i ah Z= .ok (.nx (Z.set i (.ow (.lst [])))):=uK rfl hi (Nat.zero_le _)
theorem qR {i:Nat}(h:f Z= .ok t)(hi:Z[i]? =some (.ow (.lst l)))(hl:l.length<=1000):jR i f Z= .ok (.nx (Z.set i (.ow (.lst (l++ [t]))))):=by
 unfold jR;rw[hi];simp only[h,aC];rw[if_pos (by unfold sizeLine;omega)]
theorem uL {i:Nat}(h:f Z= .ok (.lst m))(hi:Z[i]? =some (.ow (.lst l)))(hl:l.length+m.length<=1000):kH i f Z= .ok (.nx (Z.set i (.ow (.lst (l++m))))):=by
 unfold kH;rw[hi];simp only[h,aC,z6];rw[if_pos (by unfold sizeLine;omega)]
theorem k_iS (h:f Z= .ok (.tup l)):iS f Z= .ok l:=by unfold iS;rw[h];rfl
theorem i8 (h:f Z= .ok (.lst l)):iS f Z= .ok l:=by unfold iS;rw[h];rfl
theorem yg (h:fs Z= .ok [.lst l]):iE fs Z= .ok (bp 0 l):=by unfold iE;rw[h];rfl
theorem BC {n:Nat}(e:l[n]? =some t):aN (.tup l) (.int (n:Int))= .ok t:=by show(match L2.atI l _ with | some t=>Rs.ok t | none=> .bad)=_;rw[iA e]
theorem zP {n:Nat}(e:l[n]? =some t):aN (.lst l) (.int (n:Int))= .ok t:=by show(match L2.atI l _ with | some t=>Rs.ok t | none=> .bad)=_;rw[iA e]
theorem sd {n:Nat}(h:fa Z= .ok (.tup l))(h2:fb Z= .ok (.int (n:Int)))(e:l[n]? =some t):o2 aN fa fb Z= .ok t:=aD h h2 (BC e)
theorem o6 {n:Nat}(h:fa Z= .ok (.lst l))(h2:fb Z= .ok (.int (n:Int)))(e:l[n]? =some t):o2 aN fa fb Z= .ok t:=aD h h2 (zP e)
theorem Bw {fe:En->Rs T}{fl fu:En->Rs (Option Int)}{lo hi:Option Int}(h:fe Z= .ok (.tup l))(h1:fl Z= .ok lo)(h2:fu Z= .ok hi):sl fe fl fu Z= .ok (.tup (jZ l lo hi)):=by
 unfold sl;rw[h,h1,h2];rfl
theorem uH {fe:En->Rs T}{fl fu:En->Rs (Option Int)}{lo hi:Option Int}(h:fe Z= .ok (.lst l))(h1:fl Z= .ok lo)(h2:fu Z= .ok hi):sl fe fl fu Z= .ok (.lst (jZ l lo hi)):=by
 unfold sl;rw[h,h1,h2];rfl
theorem uJ {i:Int}(h:f Z= .ok (.int i)):pS f Z= .ok (some i):=by unfold pS;rw[h];rfl
theorem lq (l:List T)(n:Nat):jZ l none (some (n:Int))=l.take n:=by
 unfold jZ;rw[HT.sIx_none,HT.sIx_nat,List.drop_zero,Nat.sub_zero,List.take_eq_take_iff];omega
theorem pz (l:List T)(n:Nat):jZ l (some (n:Int)) none=l.drop n:=by
 unfold jZ;rw[HT.sIx_none,HT.sIx_nat]
 by_cases h:n<=l.length
 ·rw[Nat.min_eq_left h]
  exact List.take_of_length_le (by rw[List.length_drop];omega)
 ·rw[Nat.min_eq_right (by omega),List.drop_eq_nil_of_le (Nat.le_refl _),List.drop_eq_nil_of_le (by omega),List.take_nil]
theorem Bz {i:Nat}{o:OT}(hi:Z[i]? =some (.ow o))(h:f (disown i Z)= .ok t)(hk:t.nk o.isD=true):ln i f Z= .ok t:=by
 unfold ln;rw[hi];simp only[h,aC,hk,if_true]
theorem By {i:Nat}{k:Bool}(h:b (disown i Z)= .ok k):zE i b Z= .ok k:=h
theorem BG {i:Nat}{x:Rs Fl}(h:F (disown i Z)=x):mU i F Z=x:=h
end
theorem mk2 (a b:T):ii [a,b] = .ok (.tup [a,b]):=by unfold ii;rw[if_pos (az (k:=1000) (by simp only[List.length_cons,List.length_nil];omega))]
theorem gU (n:Nat):(rng 0 n).length=n:=by unfold rng;rw[List.length_map,List.length_range];omega
end Tr
namespace G
open PySem Tr
def Cg:T->Bool
 | .int _=>true
 | _=>false
theorem qZ (t:T)(h:t.pl=true):dM [t] = .ok (.bl (Cg t)):=by
 cases t <;> first | rfl | (simp[T.pl]at h;done)
def aM (t:T)(a b:Int):Bool:=match t with
 | .int i=>decide (a<=i)&&decide (i<=b)
 | _=>false
theorem dD (t:T)(a b:Int)(h:t.pl=true):aH [t,.int a,.int b] = .ok (.bl (aM t a b)):=by
 have w:=qZ t h
 cases t with
 | int i=>
  simp[aH,val,bf,eg,aI,aF,bJ,vr,ch,cl,ac,ah,pC,aM,w,Cg]
  cases decide (a<=i) <;> rfl
 | scr _=>simp[T.pl]at h
 | dct _ _=>simp[T.pl]at h
 | _=>simp[aH,val,bf,eg,aI,aF,bJ,vr,ch,cl,ac,ah,aM,w,Cg]
def dl (t:T)(a b:Nat):Bool:=match t with
 | .tup l=>decide (a<=l.length)&&decide (l.length<=b)
 | _=>false
theorem gF (t:T)(a b:Nat)(h:t.pl=true):aE [t,.int a,.int b] = .ok (.bl (dl t a b)):=by
 cases t with
 | tup l=>
  simp[aE,val,bf,hV,aI,aF,bJ,o1,vr,uP,T.ty,qV,ch,cl,ac,ah,bx,T.items,pC,dl]
  cases decide (a<=l.length) <;> rfl
 | scr _=>simp[T.pl]at h
 | dct _ _=>simp[T.pl]at h
 | _=>rfl
def jS (x y:T):Bool:=aM x 1 9&&(match x with
 | .int i=>aM y i 9
 | _=>false)
theorem z9 (x y:T)(hx:x.pl=true)(hy:y.pl=true):eX [x,y] = .ok (.bl (jS x y)):=by
 have w:=dD x 1 9 hx;unfold jS
 cases q:aM x 1 9 with
 | false=>rw[q]at w;simp[eX,val,bf,fU,aI,aF,bJ,vr,cn,cl,ac,ah,w]
 | true=>
  rw[q]at w
  cases x with
  | int i=>simp[eX,val,bf,fU,aI,aF,bJ,vr,cn,cl,ac,ah,w,dD y i 9 hy]
  | _=>cases q
def j9:List Int->Bool
 | a::b::r=>decide (a<b)&&j9 (b::r)
 | _=>true
theorem wc (a b:Int)(r:List Int):j9 (a::b::r)=(decide (a<b)&&j9 (b::r)):=rfl
theorem lD {fe:En->Rs T}{p:T->Bool}{l:List T}{fi:En->Rs (List T)}{src:List (Option Nat)}{Z:En}(hi:fi Z= .ok l)(hs:l.length<=sizeLine)(hn:0<src.length)(hf:∀t∈l,fe ((cw src Z).set 0 (.va t))= .ok (.bl (p t))) :
  cl j5 (ac (eU fi src (gN 0) bT fe) ah) Z= .ok (.bl (l.all p)):=by
 have e:=p7 (fe:=fe) (h:=λt=>T.bl (p t)) l (cw src Z) (by unfold cw;rw[List.length_map];exact hn) hf
 simp only[cl,ac,ah,eU,hi,aC,if_pos hs,e,all_map]
def jo (l:List T):T->Bool
 | .int k=>match L2.atI l k,L2.atI l (k+1)with
  | some (.int a),some (.int b)=>decide (a<b)
  | _,_=>false
 | _=>false
theorem j8 {t:T}{j:Int}(h:t∈rng 0 j):∃k:Nat,t= .int k/\(k:Int)<j:=by
 unfold rng at h;obtain⟨k,hk,e⟩:=List.mem_map.mp h;rw[List.mem_range]at hk;exact⟨k,by rw[<-e];simp,by omega⟩
theorem yE:(l:List Int)->l.length<=4->(rng 0 ((l.length:Int) - 1)).all (jo (l.map .int))=j9 l
 | [],_=>rfl
 | [a],_=>rfl
 | [a,b],_=>by simp[rng,List.range_succ,jo,L2.atI,L2.ixN,j9]
 | [a,b,c],_=>by simp[rng,List.range_succ,jo,L2.atI,L2.ixN,j9]
 | [a,b,c,d],_=>by simp[rng,List.range_succ,jo,L2.atI,L2.ixN,j9,Bool.and_assoc]
 | a::b::c::d::e::r,h=>absurd h (by simp only[List.length_cons];omega)
theorem xu (l:List Int)(h:l.length<=4):g7 [.tup (l.map .int)] = .ok (.bl (j9 l)):=by
 have hr:iR (ac (o2 eF (cl bx (ac (vr 0) ah)) (cn (.int 1))) ah) [.va (.tup (l.map .int))] = .ok (rng 0 ((l.length:Int) - 1)):=by
  have:o7 ((l.length:Int) - 1)=true:=by unfold o7;rw[Bool.and_eq_true];exact⟨decide_eq_true (by omega),decide_eq_true (by omega)⟩
  simp[iR,ac,ah,o2,cl,vr,cn,bx,T.items,eF,this]
 have hs:(rng 0 ((l.length:Int) - 1)).length<=sizeLine:=by
  unfold rng sizeLine;rw[List.length_map,List.length_range];omega
 have e:=lD (fe:=o2 zD (o2 aN (vr 1) (vr 0)) (o2 aN (vr 1) (o2 aJ (vr 0) (cn (.int 1))))) (p:=jo (l.map .int)) (src:=[none,some 0]) hr hs (by decide) (λt ht=>by
  obtain⟨k,rfl,hk⟩:=j8 ht
  have h1:(l.map T.int)[k]? =some (.int (l[k]'(by omega))):=by simp
  have h2:(l.map T.int)[k+1]? =some (.int (l[k+1]'(by omega))):=by rw[List.getElem?_map,List.getElem?_eq_getElem (by omega)];rfl
  have g1:=iA h1
  have g2:L2.atI (l.map T.int) ((k:Int)+1)=some (.int (l[k+1]'(by omega))):=iA h2
  simp[o2,vr,cw,cn,aJ,aN,T.items,g1,g2,pC,jo])
 rw[yE l h]at e;simp only[g7,val,List.length_singleton,if_true,kr,bf,aF,aI]
 show(do let f <-(do let t <-cl j5 _ [.va (.tup (l.map .int))];Rs.ok (Fl.rt t));_)=_
 rw[e]
 rfl
def ix:List T->Option (List Int)
 | [] =>some []
 | .int i::l=>match ix l with
  | some m=>some (i::m)
  | none=>none
 | _::_=>none
def bY (t:T):Bool:=dl t 1 4&&(match t with
 | .tup l=>l.all (λu=>aM u 0 99)&&(match ix l with | some m=>j9 m | none=>false)
 | _=>false)
theorem kX:∀{l:List T} {m:List Int},ix l=some m->l=m.map .int
 | [],m,h=>by cases h;rfl
 | t::l,m,h=>by
  cases t with
  | int i=>
   unfold ix at h
   cases q:ix l with
   | none=>rw[q]at h;cases h
   | some m'=>rw[q]at h;cases h;rw[List.map_cons,<-kX q]
  | _=>cases h
theorem ni:∀{l:List T} {a b:Int},(l.all λu=>aM u a b)=true->∃m,ix l=some m
 | [],_,_,_=>⟨[],rfl⟩
 | t::l,a,b,h=>by
  rw[List.all_cons,Bool.and_eq_true]at h
  cases t with
  | int i=>
   obtain⟨m,e⟩:=ni h.2
   exact⟨i::m,by unfold ix;rw[e]⟩
  | _=>exact absurd h.1 (by simp[aM])
theorem cE {t:T}{a b:Nat}(h:dl t a b=true):∃l,t= .tup l/\a<=l.length/\l.length<=b:=by
 cases t with
 | tup l=>unfold dl at h;rw[Bool.and_eq_true]at h;exact⟨l,rfl,of_decide_eq_true h.1,of_decide_eq_true h.2⟩
 | _=>cases h
theorem small {n k:Nat}(h:n<=k)(hk:k<=1000:=by decide):n<=sizeLine:=by unfold sizeLine;omega
theorem qg (t:T)(h:t.pl=true):bn [t] = .ok (.bl (bY t)):=by
 have w:aE [t,.int 1,.int 4] = .ok (.bl (dl t 1 4)):=gF t 1 4 h;unfold bY
 cases q:dl t 1 4 with
 | false=>rw[q]at w;simp[bn,val,bf,cu,aI,ar,dL,cD,tb,sN,aF,cl,vr,cn,ac,ah,w]
 | true=>
  rw[q]at w;obtain⟨l,rfl,h1,h2⟩:=cE q
  have hp:∀u∈l,u.pl=true:=λu hu=>fZ (by unfold T.pl at h;exact h) hu
  have e:=lD (fe:=cl aH (ac (vr 0) (ac (cn (.int 0)) (ac (cn (.int 99)) ah)))) (p:=λu=>aM u 0 99) (src:=[none]) (fi:=iS (vr 0)) (Z:=[.va (.tup l)]) rfl (small h2) (by decide) (λu hu=>by
   simp[cl,ac,ah,vr,cn,cw,dD u 0 99 (hp u hu)])
  have w':cl aE (ac (vr 0) (ac (cn (.int 1)) (ac (cn (.int 4)) ah))) [.va (.tup l)] = .ok (.bl true):=w
  show bn _= .ok (.bl (true&&(l.all (λu=>aM u 0 99)&&(match ix l with | some m=>j9 m | none=>false))))
  cases qa:l.all λu=>aM u 0 99 with
  | false=>
   rw[qa]at e
   simp[bn,val,bf,cu,aI,ar,dL,cD,tb,sN,aF,bJ,e,w']
  | true=>
   rw[qa]at e;obtain⟨m,em⟩:=ni qa
   have el:=kX em
   have er:=xu m (by rw[el,List.length_map]at h2;exact h2)
   rw[<-el]at er
   have er':cl g7 (ac (vr 0) ah) [.va (.tup l)] = .ok (.bl (j9 m)):=er;simp[bn,val,bf,cu,aI,ar,dL,cD,tb,sN,aF,bJ,e,w',er',em]
def at_ (t:T)(k:Nat):T:=match t.items with
 | some l=>l.getD k .non
 | none=> .non
def aY (t:T):Bool:=dl t 3 3&&(match t with
 | .tup [x,y,r] =>jS x y&&bY r
 | _=>false)
theorem xz (t:T)(h:t.pl=true):cR [t] = .ok (.bl (aY t)):=by
 have w:aE [t,.int 3,.int 3] = .ok (.bl (dl t 3 3)):=gF t 3 3 h;unfold aY
 cases q:dl t 3 3 with
 | false=>rw[q]at w;simp[cR,val,bf,dR,aI,aF,bJ,cl,vr,cn,ac,ah,w]
 | true=>
  rw[q]at w;obtain⟨l,rfl,h1,h2⟩:=cE q
  match l,h1,h2 with
  | [x,y,r],_,_=>
   simp[T.pl,plS]at h;obtain⟨px,py,pr⟩:=h
   have g0:aN (.tup [x,y,r]) (.int 0)= .ok x:=rfl
   have g1:aN (.tup [x,y,r]) (.int 1)= .ok y:=rfl
   have g2:aN (.tup [x,y,r]) (.int 2)= .ok r:=rfl
   have ep:=z9 x y px py
   have er:=qg r pr
   cases qp:jS x y with
   | false=>rw[qp]at ep;simp[cR,val,bf,dR,aI,aF,bJ,cl,vr,cn,ac,ah,o2,w,g0,g1,ep,qp]
   | true=>rw[qp]at ep;simp[cR,val,bf,dR,aI,aF,bJ,cl,vr,cn,ac,ah,o2,w,g0,g1,g2,ep,er,qp]
def aU (t:T):Bool:=dl t 1 4&&(match t with
 | .tup l=>l.all aY
 | _=>false)
theorem vd (t:T)(h:t.pl=true):cX [t] = .ok (.bl (aU t)):=by
 have w:aE [t,.int 1,.int 4] = .ok (.bl (dl t 1 4)):=gF t 1 4 h;unfold aU
 cases q:dl t 1 4 with
 | false=>rw[q]at w;simp[cX,val,bf,dF,aI,aF,bJ,cl,vr,cn,ac,ah,w]
 | true=>
  rw[q]at w;obtain⟨l,rfl,h1,h2⟩:=cE q
  have hp:∀u∈l,u.pl=true:=λu hu=>fZ (by unfold T.pl at h;exact h) hu
  have e:=lD (fe:=cl cR (ac (vr 0) ah)) (p:=aY) (src:=[none]) (fi:=iS (vr 0)) (Z:=[.va (.tup l)]) rfl (small h2) (by decide) (λu hu=>by
   simp[cl,ac,ah,vr,cn,cw,xz u (hp u hu)])
  have w':cl aE (ac (vr 0) (ac (cn (.int 1)) (ac (cn (.int 4)) ah))) [.va (.tup l)] = .ok (.bl true):=w;simp[cX,val,bf,dF,aI,aF,bJ,e,w']
def dC (x y:T):Bool:=aM x 0 999&&(match x,y with
 | _,.non=>true
 | .int i,_=>aM y i 999
 | _,_=>false)
theorem xy (x y:T)(hx:x.pl=true)(hy:y.pl=true):dk [x,y] = .ok (.bl (dC x y)):=by
 have w:=dD x 0 999 hx;unfold dC
 cases q:aM x 0 999 with
 | false=>rw[q]at w;simp[dk,val,bf,dQ,aI,aF,bJ,vr,cn,cl,ac,ah,w]
 | true=>
  rw[q]at w
  cases x with
  | int i=>
   have e:=dD y i 999 hy
   cases y with
   | non=>simp[dk,val,bf,dQ,aI,aF,bJ,vG,vr,cn,cl,ac,ah,o2,eV,T.isN,w]
   | _=>simp[dk,val,bf,dQ,aI,aF,bJ,vG,vr,cn,cl,ac,ah,o2,eV,T.isN,w,e]
  | _=>cases q
def reads (cs:List T)(c:Int):Nat:=if 0<=c then(match cs[c.toNat]? with
 | some (.tup [_,_,.tup r])=>r.length
 | _=>0)else 0
def aT (cs:List T)(t:T):Bool:=match t with
 | .tup [.int c,.int k] =>decide (0<=c)&&decide (c<cs.length)&&(decide (0<=k)&&decide (k<reads cs c))
 | _=>false
theorem jO {t:T}(h:aY t=true):∃x y r,t= .tup [x,y,.tup r]:=by
 unfold aY at h;rw[Bool.and_eq_true]at h;obtain⟨h1,h2⟩:=h;obtain⟨l,rfl,h3,h4⟩:=cE h1
 match l,h3,h4,h2 with
 | [x,y,r],_,_,h2=>
  simp only[Bool.and_eq_true]at h2;obtain⟨_,h5⟩:=h2;unfold bY at h5;rw[Bool.and_eq_true]at h5;obtain⟨m,rfl,_⟩:=cE h5.1;exact⟨x,y,m,rfl⟩
theorem cz {t:T}{a b:Int}(h:aM t a b=true):∃i,t= .int i/\a<=i/\i<=b:=by
 cases t with
 | int i=>unfold aM at h;rw[Bool.and_eq_true]at h;exact⟨i,rfl,of_decide_eq_true h.1,of_decide_eq_true h.2⟩
 | _=>cases h
theorem q0 (cs:List T)(t:T)(hc:aU (.tup cs)=true)(h:t.pl=true):cQ [.tup cs,t] = .ok (.bl (aT cs t)):=by
 have w:aE [t,.int 2,.int 2] = .ok (.bl (dl t 2 2)):=gF t 2 2 h
 cases q:dl t 2 2 with
 | false=>
  rw[q]at w
  have:aT cs t=false:=by
   unfold aT;split
   ·cases q
   ·rfl
  simp[cQ,val,bf,dP,aI,ar,dL,jI,cD,tb,sN,aF,cl,vr,cn,ac,ah,w,this]
 | true=>
  rw[q]at w;obtain⟨l,rfl,h1,h2⟩:=cE q
  match l,h1,h2 with
  | [x,y],_,_=>
   simp[T.pl,plS]at h;obtain⟨px,py⟩:=h
   have g0:aN (.tup [x,y]) (.int 0)= .ok x:=rfl
   have g1:aN (.tup [x,y]) (.int 1)= .ok y:=rfl
   have gl:bx [.tup cs] = .ok (.int cs.length):=rfl
   have e1:=dD x 0 ((cs.length:Int) - 1) px
   cases q1:aM x 0 ((cs.length:Int) - 1)with
   | false=>
    rw[q1]at e1
    have:aT cs (.tup [x,y])=false:=by
     cases x with
     | int c=>
      cases y with
      | int k=>
       simp only[aM,Bool.and_eq_false_iff,decide_eq_false_iff_not]at q1;simp only[aT,Bool.and_eq_false_iff,decide_eq_false_iff_not]
       omega
      | _=>rfl
     | _=>rfl
    simp[cQ,val,bf,dP,aI,ar,dL,jI,cD,tb,sN,aF,cl,vr,cn,ac,ah,o2,eF,w,g0,gl,e1,this]
   | true=>
    rw[q1]at e1;obtain⟨c,rfl,c1,c2⟩:=cz q1;obtain⟨n,rfl⟩:=Int.eq_ofNat_of_zero_le c1
    have hn:n<cs.length:=by omega
    have hcl:aY cs[n] =true:=by
     unfold aU at hc;rw[Bool.and_eq_true]at hc;exact List.all_eq_true.mp hc.2 _ (List.getElem_mem hn)
    obtain⟨a,b,r,er⟩:=jO hcl
    have g2:aN (.tup cs) (.int (n:Int))= .ok (.tup [a,b,.tup r]):=by
     simp only[aN,T.items];rw[iA (List.getElem?_eq_getElem hn),er]
    have g3:aN (.tup [a,b,.tup r]) (.int 2)= .ok (.tup r):=rfl
    have gr:bx [.tup r] = .ok (.int r.length):=rfl
    have e2:=dD y 0 ((r.length:Int) - 1) py
    have:aT cs (.tup [.int n,y])=aM y 0 ((r.length:Int) - 1):=by
     have er2:reads cs (n:Int)=r.length:=by
      unfold reads;rw[if_pos c1,Int.toNat_natCast,List.getElem?_eq_getElem hn,er]
     cases y with
     | int k=>
      simp only[aT,aM,er2];rw[decide_eq_true c1,decide_eq_true (show(n:Int)<cs.length by omega)]
      simp only[Bool.true_and]
      congr 1
      exact decide_eq_decide.mpr (by omega)
     | _=>rfl
    simp[cQ,val,bf,dP,aI,ar,dL,jI,cD,tb,sN,aF,cl,vr,cn,ac,ah,o2,eF,w,g0,g1,g2,g3,gl,gr,e1,e2,this]
def bc (cs:List T)(t:T):Bool:=match t with
 | .tup [a,b,x,y] =>dC x y&&(aT cs a&&(aT cs b&& !aO a b))
 | _=>false
theorem d9 {cs:List T}{t:T}(h:aT cs t=true):∃c k:Int,t= .tup [.int c,.int k]:=by
 unfold aT at h
 split at h
 ·exact⟨_,_,rfl⟩
 ·cases h
theorem u8 (cs:List T)(t:T)(hc:aU (.tup cs)=true)(h:t.pl=true):bH [.tup cs,t] = .ok (.bl (bc cs t)):=by
 have w:aE [t,.int 4,.int 4] = .ok (.bl (dl t 4 4)):=gF t 4 4 h
 cases q:dl t 4 4 with
 | false=>
  rw[q]at w
  have:bc cs t=false:=by
   unfold bc;split
   ·cases q
   ·rfl
  simp[bH,val,bf,cx,aI,ar,dL,jI,cD,tb,sN,aF,cl,vr,cn,ac,ah,w,this]
 | true=>
  rw[q]at w;obtain⟨l,rfl,h1,h2⟩:=cE q
  match l,h1,h2 with
  | [a,b,x,y],_,_=>
   simp[T.pl,plS]at h;obtain⟨pa,pb,px,py⟩:=h
   have g0:aN (.tup [a,b,x,y]) (.int 0)= .ok a:=rfl
   have g1:aN (.tup [a,b,x,y]) (.int 1)= .ok b:=rfl
   have g2:aN (.tup [a,b,x,y]) (.int 2)= .ok x:=rfl
   have g3:aN (.tup [a,b,x,y]) (.int 3)= .ok y:=rfl
   have e1:=xy x y px py
   have e2:=q0 cs a hc pa
   have e3:=q0 cs b hc pb
   show _=Rs.ok (T.bl (dC x y&&(aT cs a&&(aT cs b&& !aO a b))))
   cases q1:dC x y with
   | false=>
    rw[q1]at e1
    simp[bH,val,bf,cx,aI,ar,dL,jI,cD,tb,sN,aF,cl,vr,cn,ac,ah,o2,w,g2,g3,e1]
   | true=>
    rw[q1]at e1
    cases q2:aT cs a with
    | false=>
     rw[q2]at e2
     simp[bH,val,bf,cx,aI,ar,dL,jI,cD,tb,sN,aF,bJ,cl,vr,cn,ac,ah,o2,w,g0,g2,g3,e1,e2]
    | true=>
     rw[q2]at e2
     cases q3:aT cs b with
     | false=>
      rw[q3]at e3
      simp[bH,val,bf,cx,aI,ar,dL,jI,cD,tb,sN,aF,bJ,cl,vr,cn,ac,ah,o2,w,g0,g1,g2,g3,e1,e2,e3]
     | true=>
      rw[q3]at e3;obtain⟨c,k,rfl⟩:=d9 q2
      have f:ft (.tup [.int c,.int k]) b=true:=fS (by simp[T.dep,deps]) rfl (T.pl_nd _ pb)
      have g4:jU (.tup [.int c,.int k]) b= .ok (.bl (!aO (.tup [.int c,.int k]) b)):=by unfold jU;rw[if_pos f]
      simp[bH,val,bf,cx,aI,ar,dL,jI,cD,tb,sN,aF,bJ,cl,vr,cn,ac,ah,o2,w,g0,g1,g2,g3,g4,e1,e2,e3]
def g8 (cs:List T)(t:T):Bool:=dl t 0 8&&(match t with
 | .tup l=>l.all (bc cs)
 | _=>false)
theorem si (cs:List T)(t:T)(hc:aU (.tup cs)=true)(h:t.pl=true):cH [.tup cs,t] = .ok (.bl (g8 cs t)):=by
 have w:aE [t,.int 0,.int 8] = .ok (.bl (dl t 0 8)):=gF t 0 8 h;unfold g8
 cases q:dl t 0 8 with
 | false=>rw[q]at w;simp[cH,val,bf,df,aI,aF,bJ,cl,vr,cn,ac,ah,w]
 | true=>
  rw[q]at w;obtain⟨l,rfl,h1,h2⟩:=cE q
  have hp:∀u∈l,u.pl=true:=λu hu=>fZ (by unfold T.pl at h;exact h) hu
  have e:=lD (fe:=cl bH (ac (vr 1) (ac (vr 0) ah))) (p:=bc cs) (src:=[none,some 0]) (fi:=iS (vr 1)) (Z:=[.va (.tup cs),.va (.tup l)]) rfl (small h2) (by decide) (λu hu=>by
   simp[cl,ac,ah,vr,cn,cw,u8 cs u hc (hp u hu)])
  have w':cl aE (ac (vr 1) (ac (cn (.int 0)) (ac (cn (.int 8)) ah))) [.va (.tup cs),.va (.tup l)] = .ok (.bl true):=w;simp[cH,val,bf,df,aI,aF,bJ,e,w']
def jL (t:T):Bool:=match t with
 | .tup [.tup cs,ls] =>aU (.tup cs)&&g8 cs ls
 | _=>false
theorem u7 (t:T)(h:t.pl=true):cP [t] = .ok (.bl (jL t)):=by
 have w:aE [t,.int 2,.int 2] = .ok (.bl (dl t 2 2)):=gF t 2 2 h
 cases q:dl t 2 2 with
 | false=>
  rw[q]at w
  have:jL t=false:=by
   unfold jL;split
   ·cases q
   ·rfl
  simp[cP,val,bf,du,aI,aF,bJ,cl,vr,cn,ac,ah,w,this]
 | true=>
  rw[q]at w;obtain⟨l,rfl,h1,h2⟩:=cE q
  match l,h1,h2 with
  | [x,y],_,_=>
   simp[T.pl,plS]at h;obtain⟨px,py⟩:=h
   have g0:aN (.tup [x,y]) (.int 0)= .ok x:=rfl
   have g1:aN (.tup [x,y]) (.int 1)= .ok y:=rfl
   have e1:=vd x px
   cases q1:aU x with
   | false=>
    rw[q1]at e1
    have:jL (.tup [x,y])=false:=by
     cases x with
     | tup cs=>show(aU (.tup cs)&&_)=false;rw[q1];rfl
     | _=>rfl
    simp[cP,val,bf,du,aI,aF,bJ,cl,vr,cn,ac,ah,o2,w,g0,e1,this]
   | true=>
    rw[q1]at e1
    cases x with
    | tup cs=>
     have e2:=si cs y q1 py
     have:jL (.tup [.tup cs,y])=g8 cs y:=by show(aU (.tup cs)&&_)=_;rw[q1];rfl
     simp[cP,val,bf,du,aI,aF,bJ,cl,vr,cn,ac,ah,o2,w,g0,g1,e1,e2,this]
    | _=>cases q1
theorem eZ:∀m:List Int,deps (m.map .int)=0
 | [] =>rfl
 | a::m=>by rw[List.map_cons,deps,eZ m];rfl
def jY (i n:Nat):List T:=(rng 0 n).map λt=>T.tup [.int i,t]
def yG:T->Nat
 | .tup [_,_,.tup r] =>r.length
 | _=>0
def dX:Nat->List T->List T
 | _,[] => []
 | i,c::r=>jY i (yG c)++dX (i+1) r
theorem ee {t:T}(h:aY t=true):∃x y r,t= .tup [x,y,.tup r]/\1<=r.length/\r.length<=4:=by
 obtain⟨x,y,r,rfl⟩:=jO h
 have:bY (.tup r)=true:=by
  have h':(jS x y&&bY (.tup r))=true:=h;rw[Bool.and_eq_true]at h';exact h'.2
 unfold bY at this;rw[Bool.and_eq_true]at this;obtain⟨l,e,h1,h2⟩:=cE this.1;cases e;exact⟨x,y,r,rfl,h1,h2⟩
theorem fT (i n:Nat):(jY i n).length=n:=by unfold jY;rw[List.length_map,gU]
abbrev evF:En->Rs Fl:=bN (o2 aJ (vr 1) (eU (iR (ac (cl bx (ac (o2 aN (vr 3) (cn (.int 2))) ah)) ah)) [none,some 2] (gN 0) bT (bq (ac (vr 1) (ac (vr 0) ah))))) (gN 1)
abbrev evG:T->En->Rs En:=gT 2 (nA (gN 2) (nA (gN 3) uU))
theorem xo {f:En->Rs (List T)}{Z:En}{j:Int}(h:f Z= .ok [.int j])(h0:0<=j)(h1:j<=100000):iR f Z= .ok (rng 0 j):=by
 have e:o7 j=true:=by unfold o7;rw[Bool.and_eq_true];exact⟨decide_eq_true (by omega),decide_eq_true (by omega)⟩
 unfold iR;rw[h]
 show(if o7 j=true then _ else _)=_
 rw[e];rfl
theorem kn (l m:List T)(h:(l++m).length<=1000):aJ (.lst l) (.lst m)= .ok (.lst (l++m)):=by
 show ij (l++m)=_
 unfold ij;rw[if_pos (az h)]
theorem xL (l m:List T)(h:(l++m).length<=1000):aJ (.tup l) (.tup m)= .ok (.tup (l++m)):=by
 show ii (l++m)=_
 unfold ii;rw[if_pos (az h)]
theorem BS (c0 acc x y:T)(r:List T)(i:Nat)(h:r.length<=4) :
  eU (iR (ac (cl bx (ac (o2 aN (vr 3) (cn (.int 2))) ah)) ah)) [none,some 2] (gN 0) bT (bq (ac (vr 1) (ac (vr 0) ah))) [.va c0,.va acc,.va (.int i),.va (.tup [x,y,.tup r])] = .ok (.lst (jY i r.length)):=
 o5 (xo (j:=(r.length:Int)) rfl (by omega) (by omega)) (az (k:=4) (by rw[gU];exact h)) (by simp) λt _=>mk2 _ _
theorem xq (c0 x y:T)(acc r:List T)(i:Nat)(h:r.length<=4)(ha:acc.length<=100):evF [.va c0,.va (.lst acc),.va (.int i),.va (.tup [x,y,.tup r])] = .ok (.nx [.va c0,.va (.lst (acc++jY i r.length)),.va (.int i),.va (.tup [x,y,.tup r])]):=
 bz (aD (t:=.lst acc) rfl (BS c0 (.lst acc) x y r i h) (kn _ _ (by rw[List.length_append,fT];omega))) rfl
theorem qY:∀(cs:List T) (c0:T) (acc:List T) (i:Nat) (s2 s3:Sl),(∀c∈cs,aY c=true)->acc.length+4*cs.length<=100 →
  ∃y2 y3,aW evG evF (bp i cs) [.va c0,.va (.lst acc),s2,s3] = .ok (.nx [.va c0,.va (.lst (acc++dX i cs)),y2,y3])
 | [],c0,acc,i,s2,s3,_,_=>⟨s2,s3,by simp[bp,aW,dX]⟩
 | c::cs,c0,acc,i,s2,s3,hc,hl=>by
  obtain⟨x,y,r,rfl,r1,r2⟩:=ee (hc c List.mem_cons_self);rw[List.length_cons]at hl;obtain⟨z2,z3,ih⟩:=qY cs c0 (acc++jY i r.length) (i+1) (.va (.int i)) (.va (.tup [x,y,.tup r])) (λc h=>hc c (List.mem_cons_of_mem _ h)) (by rw[List.length_append,fT];omega)
  refine⟨z2,z3,?_⟩
  rw[bp,dO (Z1:=[.va c0,.va (.lst acc),.va (.int i),.va (.tup [x,y,.tup r])]) rfl (xq c0 x y acc r i r2 (by omega)),ih,dX,List.append_assoc]
  rfl
theorem br {cs:List T}(hc:aU (.tup cs)=true):(∀c∈cs,aY c=true)/\1<=cs.length/\cs.length<=4:=by
 unfold aU at hc;rw[Bool.and_eq_true]at hc;obtain⟨l,e,h1,h2⟩:=cE hc.1;cases e;exact⟨λc h=>List.all_eq_true.mp hc.2 c h,h1,h2⟩
theorem u9 (cs:List T)(hc:aU (.tup cs)=true):c6 [.tup cs] = .ok (.lst (dX 0 cs)):=by
 obtain⟨ha,h1,h2⟩:=br hc;obtain⟨y2,y3,e⟩:=qY cs (.tup cs) [] 0 .em .em ha (by simp;omega)
 rw[List.nil_append]at e;refine bw rfl ?_
 unfold dY;rw[ax (Z':=[.va (.tup cs),.va (.lst []),.em,.em]) rfl,ax ((fR (ts:=bp 0 cs) rfl e))]
 rfl
theorem xc {n k:Nat}(h:k<n):T.int (k:Int)∈rng 0 (n:Int):=by
 unfold rng;exact List.mem_map.mpr ⟨k,List.mem_range.mpr (by omega),by simp⟩
theorem lW (cs:List T)(c:Nat):reads cs (c:Int)=yG (cs.getD c .non):=by
 unfold reads;rw[if_pos (by omega),Int.toNat_natCast,List.getD_eq_getElem?_getD]
 cases cs[c]? with
 | none=>rfl
 | some t=>
  cases t with
  | tup l=>
   match l with
   | [] =>rfl
   | [_] =>rfl
   | [_,_] =>rfl
   | [_,_,z] =>cases z <;> rfl
   | _::_::z::_::_=>cases z <;> rfl
  | _=>rfl
mutual
def sm (n:Nat):T->Bool
 | .dct _ _=>false
 | .scr _=>false
 | .tup l=>decide (l.length<=n)&&sms n l
 | .lst l=>decide (l.length<=n)&&sms n l
 | _=>true
def sms (n:Nat):List T->Bool
 | [] =>true
 | t::l=>sm n t&&sms n l
end
mutual
theorem xX {n:Nat}:∀(t:T),sm n t=true->t.pl=true
 | .scr _,h=>by simp[sm]at h
 | .dct _ _,h=>by simp[sm]at h
 | .tup l,h=>by rw[sm,Bool.and_eq_true]at h;rw[T.pl];exact sms_pl l h.2
 | .lst l,h=>by rw[sm,Bool.and_eq_true]at h;rw[T.pl];exact sms_pl l h.2
 | .non,_=>by simp[T.pl]
 | .bl _,_=>by simp[T.pl]
 | .int _,_=>by simp[T.pl]
 | .str _,_=>by simp[T.pl]
theorem sms_pl {n:Nat}:∀(l:List T),sms n l=true->plS l=true
 | [],_=>by simp[plS]
 | t::l,h=>by rw[sms,Bool.and_eq_true]at h;rw[plS,xX t h.1,sms_pl l h.2];rfl
end
theorem qy {n:Nat}:∀{l:List T},sms n l=true↔ ∀t∈l,sm n t=true
 | [] =>by simp[sms]
 | t::l=>by rw[sms,Bool.and_eq_true,qy (l:=l)];simp
theorem sm_tup {n:Nat}{l:List T}:sm n (.tup l)=true↔l.length<=n/\∀t∈l,sm n t=true:=by rw[sm,Bool.and_eq_true,qy,decide_eq_true_iff]
theorem gA {i j:Int}(h:0<j):hY (.int i) (.int j)= .ok (.int (i % j)):=by show(if _ then _ else _)=_;rw[if_pos h]
theorem kj {i j:Int}(h:0<j)(h2:j<1073741824):i9 (.int i) (.int j)= .ok (.int (i / j)):=by show(if _ then _ else _)=_;rw[if_pos ⟨h,h2⟩]
theorem jJ {i j:Int}(h : -18446744073709551616<i)(h2:i<18446744073709551616):bL (.int i) (.int j)= .ok (.int (i*j)):=by
 show pZ (.int i) (.int j)=_
 show(if _ then _ else _)=_
 rw[if_pos (.inl ⟨by omega,by omega⟩)]
theorem uq {i j:Int}(h : -18446744073709551616<j)(h2:j<18446744073709551616):bL (.int i) (.int j)= .ok (.int (i*j)):=by
 show pZ (.int i) (.int j)=_
 show(if _ then _ else _)=_
 rw[if_pos (.inr ⟨by omega,by omega⟩)]
theorem Ab (ns:List Int)(k:Nat)(hn:ns.length<=63):∃c,d8 [.scr ns,.int k] = .ok (.int c):=by
 have e0:o2 jM (vr 0) (c7 ah) [.va (.scr ns),.va (.int k)] = .ok (.bl (im ns [])):=by
  refine aD (t:=.scr ns) (u:=.lst []) rfl (gC (ts:=[]) rfl (az (k:=0) (Nat.le_refl _))) ?_
  unfold jM;rw[if_pos (fS (by simp[T.dep]) rfl rfl)]
  rfl
 cases ns with
 | nil=>
  refine⟨7*k,bw rfl ?_⟩
  unfold eC
  refine fI ((fQ (cA e0)).trans (cF (aD (t:=.int 7) (u:=.int k) rfl rfl (jJ (by omega) (by omega)))))
 | cons a r=>
  have hl:(0:Int)<((a::r).length:Nat):=by simp only[List.length_cons];omega
  have hl2:(((a::r).length:Nat):Int)<1073741824:=by simp only[List.length_cons]at hn ⊢;omega
  have hi:k % (a::r).length<(a::r).length:=Nat.mod_lt _ (by simp)
  have g0:o2 hY (vr 1) (cl bx (ac (vr 0) ah)) [.va (.scr (a::r)),.va (.int k)] = .ok (.int ((k % (a::r).length:Nat):Int)):=by
   refine aD (t:=.int k) (u:=.int ((a::r).length:Nat)) rfl ?_ (by rw[gA hl];rfl)
   refine aQ (ts:=[.scr (a::r)]) rfl ?_
   show Rs.ok (T.int (((a::r).map T.int).length:Nat))=_
   rw[List.length_map]
  have g1:aN (.scr (a::r)) (.int ((k % (a::r).length:Nat):Int))= .ok (.int (a::r)[k % (a::r).length]):=by
   have e:((a::r).map T.int)[k % (a::r).length]? =some (.int (a::r)[k % (a::r).length]):=by rw[List.getElem?_map,List.getElem?_eq_getElem hi];rfl
   show(match L2.atI ((a::r).map T.int) ((k % (a::r).length:Nat):Int)with | some t=>Rs.ok t | none=> .bad)=_
   rw[iA e]
  have g2:o2 i9 (vr 1) (cl bx (ac (vr 0) ah)) [.va (.scr (a::r)),.va (.int k)] = .ok (.int ((k:Int) / ((a::r).length:Nat))):=by
   refine aD (t:=.int k) (u:=.int ((a::r).length:Nat)) rfl ?_ (kj hl hl2)
   refine aQ (ts:=[.scr (a::r)]) rfl ?_
   show Rs.ok (T.int (((a::r).map T.int).length:Nat))=_
   rw[List.length_map]
  refine⟨(a::r)[k % (a::r).length] +6553*((k:Int) / ((a::r).length:Nat)),bw rfl ?_⟩
  unfold eC
  show ar _ _ [.va (.scr (a::r)),.va (.int k)] =_
  refine(ax (Z':=[.va (.scr (a::r)),.va (.int k)]) ((dB (cA e0)).trans rfl)).trans ?_
  exact cF (aD (aD (t:=.scr (a::r)) rfl g0 g1) (aD (t:=.int 6553) rfl g2 (jJ (by omega) (by omega))) rfl)
theorem cM (ns:List Int)(k:Nat)(m:Int)(hn:ns.length<=63)(hm:0<m):∃r,au [.scr ns,.int k,.int m] = .ok (.int r)/\0<=r/\r<m:=by
 obtain⟨c,hc⟩:=Ab ns k hn
 have b1:∀x:Int,0<=x % 2147483563/\x % 2147483563<2147483563:=λx=>⟨Int.emod_nonneg _ (by omega),Int.emod_lt_of_pos _ (by omega)⟩
 have b2:∀x:Int,0<=x % 2147483399/\x % 2147483399<2147483399:=λx=>⟨Int.emod_nonneg _ (by omega),Int.emod_lt_of_pos _ (by omega)⟩
 generalize hx:(c % 2147483563*69069+104723*((k:Int)+1)) % 2147483563=x
 have hx':=b1 (c % 2147483563*69069+104723*((k:Int)+1));rw[hx]at hx'
 generalize hy:(x*x+x / 3) % 2147483399=y
 have hy':=b2 (x*x+x / 3);rw[hy]at hy';refine⟨(y*y+y / 7) % 2147483647 / 11 % m,bw rfl ?_,Int.emod_nonneg _ (by omega),Int.emod_lt_of_pos _ hm⟩
 show dG [.va (.scr ns),.va (.int k),.va (.int m),.em] =_
 unfold dG
 have s1:bN (o2 hY (o2 aJ (o2 bL (o2 hY (cl d8 (ac (vr 0) (ac (vr 1) ah))) (cn (.int 2147483563))) (cn (.int 69069))) (o2 bL (cn (.int 104723)) (o2 aJ (vr 1) (cn (.int 1))))) (cn (.int 2147483563))) (gN 3) [.va (.scr ns),.va (.int k),.va (.int m),.em] = .ok (.nx [.va (.scr ns),.va (.int k),.va (.int m),.va (.int x)]):=by
  refine bz (t:=.int x) (aD (u:=.int 2147483563) (aD (aD (u:=.int 69069) (aD (u:=.int 2147483563) (aQ (ts:=[.scr ns,.int k]) rfl hc) rfl (gA (by omega))) rfl (uq (by omega) (by omega))) (aD (t:=.int 104723) (u:=.int ((k:Int)+1)) rfl rfl (jJ (by omega) (by omega))) rfl) rfl ?_) rfl
  rw[gA (by omega),hx]
 have s2:bN (o2 hY (o2 aJ (o2 bL (vr 3) (vr 3)) (o2 i9 (vr 3) (cn (.int 3)))) (cn (.int 2147483399))) (gN 3) [.va (.scr ns),.va (.int k),.va (.int m),.va (.int x)] = .ok (.nx [.va (.scr ns),.va (.int k),.va (.int m),.va (.int y)]):=by
  refine bz (t:=.int y) (aD (u:=.int 2147483399) (aD (aD (t:=.int x) (u:=.int x) rfl rfl (jJ (by omega) (by omega))) (aD (t:=.int x) (u:=.int 3) rfl rfl (kj (by omega) (by omega))) rfl) rfl ?_) rfl
  rw[gA (by omega),hy]
 rw[ax s1,ax s2];exact cF (aD (u:=.int m) (aD (u:=.int 11) (aD (u:=.int 2147483647) (aD (aD (t:=.int y) (u:=.int y) rfl rfl (jJ (by omega) (by omega))) (aD (t:=.int y) (u:=.int 7) rfl rfl (kj (by omega) (by omega))) rfl) rfl (gA (by omega))) rfl (kj (by omega) (by omega))) rfl (gA hm))
theorem di {ns:List Int}{k:Nat}{m r:Int}{f g h:En->Rs T}{Z:En}(e:au [.scr ns,.int k,.int m] = .ok (.int r))(h1:f Z= .ok (.scr ns))(h2:g Z= .ok (.int k))(h3:h Z= .ok (.int m)) :
  cl au (ac f (ac g (ac h ah))) Z= .ok (.int r):=aQ (ap h1 (ap h2 (ap h3 rfl))) e
theorem oB:∀(l:List Int) (z y:Int),j9 (l++ [z])=true->z<y->j9 (l++ [z] ++ [y])=true
 | [],z,y,_,h=>by simp[j9,h]
 | [a],z,y,h,hy=>by
  simp[j9]at h ⊢
  omega
 | a::b::l,z,y,h,hy=>by
  have h':j9 (a::b::(l++ [z]))=true:=h;rw[wc,Bool.and_eq_true]at h'
  have ih:=oB (b::l) z y h'.2 hy
  show j9 (a::b::(l++ [z] ++ [y]))=true
  rw[wc,h'.1];exact ih
theorem iX:∀l:List Int,ix (l.map .int)=some l
 | [] =>rfl
 | a::l=>by rw[List.map_cons,ix,iX l]
def RdOk (l:List Int):Prop:=∃(l':List Int) (z:Int),l=l'++ [z]/\j9 l=true/\(∀x∈l,0<=x/\x<=5*l.length)/\z<=5*l.length
abbrev clF:En->Rs Fl:=bN (o2 aJ (vr 3) (bq (ac (o2 aJ (o2 aJ (o2 aN (vr 3) (o1 oU (cn (.int 1)))) (cn (.int 1))) (cl au (ac (vr 0) (ac (o2 aJ (o2 aJ (vr 1) (cn (.int 3))) (vr 4)) (ac (cn (.int 5)) ah))))) ah))) (gN 3)
theorem xk (l:List T)(z:T):aN (.tup (l++ [z])) (.int (-1))= .ok z:=by
 have e:L2.atI (l++ [z]) (-1)=some z:=by
  unfold L2.atI L2.ixN;simp;rw[if_pos (by omega)]
  have q:(-1+((l.length:Int)+1)).toNat=l.length:=by omega
  show(l++ [z])[(-1+((l.length:Int)+1)).toNat]? =some z
  rw[q];simp
 show(match L2.atI (l++ [z]) (-1)with | some t=>Rs.ok t | none=> .bad)=_
 rw[e]
theorem xE (ns:List Int)(hn:ns.length<=63)(a j:Nat)(s:T)(l:List Int)(h:RdOk l)(hl:l.length<=3):∃l2,clF [.va (.scr ns),.va (.int a),.va s,.va (.tup (l.map .int)),.va (.int j)] = .ok (.nx [.va (.scr ns),.va (.int a),.va s,.va (.tup (l2.map .int)),.va (.int j)])/\RdOk l2/\l2.length=l.length+1:=by
 obtain⟨l',z,rfl,h1,h2,h3⟩:=h;obtain⟨d,ed,d0,d1⟩:=cM ns (a+3+j) 5 hn (by omega)
 refine⟨l'++ [z] ++ [z+1+d],?_,⟨l'++ [z],z+1+d,rfl,oB l' z _ h1 (by omega),?_,?_⟩,by simp⟩
 ·refine bz (t:=.tup ((l'++ [z] ++ [z+1+d]).map .int)) (aD (t:=.tup ((l'++ [z]).map .int)) (u:=.tup [.int (z+1+d)]) rfl (dA (ts:=[.int (z+1+d)]) (ap (aD (t:=.int (z+1)) (u:=.int d) (aD (t:=.int z) (u:=.int 1) (aD (t:=.tup ((l'++ [z]).map .int)) (u:=.int (-1)) rfl rfl ?_) rfl rfl) (di (k:=a+3+j) ed rfl ?_ rfl) rfl) rfl) (az (k:=1) (by simp))) ?_) rfl
  ·rw[List.map_append];exact xk _ _
  ·refine aD (t:=.int ((a:Int)+3)) (u:=.int j) (aD (t:=.int a) (u:=.int 3) rfl rfl rfl) rfl ?_
   show Rs.ok (T.int ((a:Int)+3+j))=_
   congr 2
  ·rw[List.map_append (l₁:=l'++ [z])]
   exact xL _ _ (by rw[List.length_append,List.length_map];simp at hl ⊢;omega)
 ·intro x hx
  rcases List.mem_append.mp hx with hx | hx
  ·have:=h2 x hx
   simp only[List.length_append,List.length_singleton]at this ⊢;omega
  ·rw[List.mem_singleton]at hx
   subst hx
   have hz:=h2 z (by simp)
   simp only[List.length_append,List.length_singleton]at h3 ⊢;omega
 ·simp only[List.length_append,List.length_singleton]at h3 ⊢
  omega
theorem rl (ns:List Int)(hn:ns.length<=63)(a:Nat)(s:T):∀(js:List Nat) (l:List Int) (s4:Sl),RdOk l->l.length+js.length<=4->∃l2 s5,aW (gN 4) clF (js.map λ(j:Nat)=>T.int j) [.va (.scr ns),.va (.int a),.va s,.va (.tup (l.map .int)),s4] = .ok (.nx [.va (.scr ns),.va (.int a),.va s,.va (.tup (l2.map .int)),s5])/\RdOk l2/\l2.length=l.length+js.length
 | [],l,s4,h,_=>⟨l,s4,rfl,h,rfl⟩
 | j::js,l,s4,h,hl=>by
  rw[List.length_cons]at hl;obtain⟨l2,e2,h2,n2⟩:=xE ns hn a j s l h (by omega)
  obtain⟨l3,s5,e3,h3,n3⟩:=rl ns hn a s js l2 (.va (.int j)) h2 (by omega)
  refine⟨l3,s5,?_,h3,by rw[n3,n2,List.length_cons];omega⟩
  rw[List.map_cons,dO (Z1:=[.va (.scr ns),.va (.int a),.va s,.va (.tup (l.map .int)),.va (.int j)]) rfl e2];exact e3
theorem gS (n:Nat):rng 0 (n:Int)=(List.range n).map λ(j:Nat)=>T.int j:=by
 unfold rng;simp
theorem RdOk.reads {l:List Int}(h:RdOk l)(hl:l.length<=4):bY (.tup (l.map .int))=true:=by
 obtain⟨l',z,rfl,h1,h2,h3⟩:=h;unfold bY;rw[Bool.and_eq_true];refine⟨?_,?_⟩
 ·simp[dl];simp at hl;omega
 ·show(((l'++ [z]).map T.int).all (λu=>aM u 0 99)&&(match ix ((l'++ [z]).map T.int)with | some m=>j9 m | none=>false))=true
  rw[iX]
  show(_&&j9 (l'++ [z]))=true
  rw[h1,Bool.and_true,List.all_eq_true];intro t ht;obtain⟨x,hx,rfl⟩:=List.mem_map.mp ht
  have:=h2 x hx;simp only[aM,Bool.and_eq_true,decide_eq_true_eq];omega
theorem vY (n:Nat)(l:List Int)(h:l.length<=n):sm n (.tup (l.map .int))=true:=sm_tup.mpr ⟨by rw[List.length_map];exact h,λt ht=>by obtain⟨x,_,rfl⟩:=List.mem_map.mp ht;simp[sm]⟩
theorem vc (ns:List Int)(hn:ns.length<=63)(a:Nat):∃c,bW [.scr ns,.int a] = .ok c/\aY c=true/\sm 8 c=true:=by
 obtain⟨d1,e1,p1,q1⟩:=cM ns a 3 hn (by omega)
 obtain⟨d2,e2,p2,q2⟩:=cM ns (a+2) 6 hn (by omega)
 obtain⟨d3,e3,p3,q3⟩:=cM ns (a+1) 3 hn (by omega)
 obtain⟨d4,e4,p4,q4⟩:=cM ns (a+6) 3 hn (by omega)
 obtain⟨n3,rfl⟩:=Int.eq_ofNat_of_zero_le p3;obtain⟨l,s5,el,hl,nl⟩:=rl ns hn a (.int (1+d1)) (List.range n3) [d2] .em ⟨[],d2,rfl,rfl,λx hx=>by rw[List.mem_singleton]at hx;subst hx;simp;omega,by simp;omega⟩ (by simp;omega)
 have nl':l.length<=4:=by rw[nl];simp;omega
 have hr:=hl.reads nl';refine⟨.tup [.int (1+d1),.int (1+d1+d4),.tup (l.map .int)],bw rfl ?_,?_,?_⟩
 ·show dH [.va (.scr ns),.va (.int a),.em,.em,.em] =_
  unfold dH;rw[ax (Z':=[.va (.scr ns),.va (.int a),.va (.int (1+d1)),.em,.em]) (bz (t:=.int (1+d1)) (aD (t:=.int 1) rfl (di e1 rfl rfl rfl) rfl) rfl)];rw[ax (Z':=[.va (.scr ns),.va (.int a),.va (.int (1+d1)),.va (.tup ([d2].map .int)),.em]) (bz (t:=.tup [.int d2]) (dA (ts:=[.int d2]) (ap (di (k:=a+2) e2 rfl rfl rfl) rfl) (az (k:=1) (by simp))) rfl)]
  rw[ax ((fR (xo (ap (di (k:=a+1) e3 rfl rfl rfl) rfl) (by omega) (by omega)) (by rw[gS];exact el)))]
  exact cF (dA (ap (t:=.int (1+d1)) rfl (ap (aD (t:=.int (1+d1)) rfl (di (k:=a+6) e4 rfl rfl rfl) rfl) (ap (t:=.tup (l.map .int)) rfl rfl))) (az (k:=3) (by simp)))
 ·show(true&&(jS (.int (1+d1)) (.int (1+d1+d4))&&bY _))=true
  rw[hr];simp only[jS,aM,Bool.true_and,Bool.and_true,Bool.and_eq_true,decide_eq_true_eq];omega
 ·refine sm_tup.mpr ⟨by simp,λt ht=> ?_⟩
  rcases List.mem_cons.mp ht with rfl | ht
  ·simp[sm]
  ·rcases List.mem_cons.mp ht with rfl | ht
   ·simp[sm]
   ·rw[List.mem_singleton]at ht;subst ht;exact vY 8 l (by omega)
theorem kf {y:T}:∀(cs:List T) (i:Nat),y∈dX i cs->∃c k:Nat,y= .tup [.int c,.int k]/\i<=c/\c<i+cs.length/\k<yG (cs.getD (c - i) .non)
 | [],i,h=>by cases h
 | x::cs,i,h=>by
  rw[dX]at h;rcases List.mem_append.mp h with h | h
  ·unfold jY at h
   obtain⟨t,ht,rfl⟩:=List.mem_map.mp h;obtain⟨j,rfl,hj⟩:=j8 ht;refine⟨i,j,rfl,Nat.le_refl _,by rw[List.length_cons];omega,?_⟩
   rw[Nat.sub_self]
   show j<yG x
   omega
  ·obtain⟨c,k,e,h1,h2,h3⟩:=kf cs (i+1) h
   refine⟨c,k,e,by omega,by rw[List.length_cons];omega,?_⟩
   have:c - i=(c - (i+1))+1:=by omega
   rw[this];exact h3
theorem u4 {cs:List T}{y:T}(h:y∈dX 0 cs):aT cs y=true:=by
 obtain⟨c,k,rfl,_,h2,h3⟩:=kf cs 0 h
 show(decide ((0:Int)<=(c:Int))&&decide ((c:Int)<(cs.length:Int))&&(decide ((0:Int)<=(k:Int))&&decide ((k:Int)<(reads cs (c:Int):Int))))=true
 rw[Nat.sub_zero]at h3;rw[lW];simp only[Bool.and_eq_true,decide_eq_true_eq];omega
theorem jm:∀(cs:List T) (i:Nat),(dX i cs).Nodup
 | [],i=>List.nodup_nil
 | x::cs,i=>by
  rw[dX,List.nodup_append];refine⟨?_,jm cs (i+1),?_⟩
  ·unfold jY rng
   rw[List.map_map];rw[List.nodup_iff_pairwise_ne,List.pairwise_map];refine List.nodup_range.imp ?_
   intro a b hab e
   simp at e
   exact hab (by omega)
  ·intro a ha b hb e
   subst e;unfold jY at ha;obtain⟨t,ht,rfl⟩:=List.mem_map.mp ha;obtain⟨c,k,e,h1,_,_⟩:=kf cs (i+1) hb
   simp at e
   omega
theorem uk {l:List T}(h:l.Nodup){i j:Nat}(hi:i<l.length)(hj:j<l.length)(hij:i≠j):l[i] ≠l[j]:=by
 rw[List.nodup_iff_pairwise_ne,List.pairwise_iff_getElem]at h;rcases Nat.lt_or_ge i j with q | q
 ·exact h i j hi hj q
 ·exact λe=>h j i hj hi (by omega) e.symm
theorem nC:∀(cs:List T) (i:Nat),(∀c∈cs,aY c=true)->(dX i cs).length<=4*cs.length
 | [],i,_=>Nat.le_refl _
 | x::cs,i,h=>by
  obtain⟨a,b,r,rfl,_,h2⟩:=ee (h x List.mem_cons_self)
  have:=nC cs (i+1) λc hc=>h c (List.mem_cons_of_mem _ hc)
  rw[dX,List.length_append,fT,List.length_cons]
  show r.length+_<=_
  omega
theorem pc {cs:List T}{a b:T}(ha:aT cs a=true)(hb:aT cs b=true)(h:a≠b):aO a b=false:=by
 obtain⟨c,k,rfl⟩:=d9 ha;obtain⟨c',k',rfl⟩:=d9 hb;rw[Bool.eq_false_iff];intro e;simp[aO,beqTs]at e;exact h (by rw[e.1,e.2])
theorem oh {cs:List T}{a:T}(ha:aT cs a=true):sm 8 a=true:=by
 obtain⟨c,k,rfl⟩:=d9 ha;simp[sm,sms]
theorem uO {l:List T}{i:Nat}(h:i<l.length):aN (.lst l) (.int (i:Int))= .ok l[i]:=by
 show(match L2.atI l (i:Int)with | some t=>Rs.ok t | none=> .bad)=_
 rw[iA (List.getElem?_eq_getElem h)]
theorem z7 (a b:Int):jM (.int a) (.int b)= .ok (.bl (a == b)):=by
 unfold jM;rw[if_pos (fS (by simp[T.dep]) rfl rfl)]
 rfl
theorem sj (ns:List Int)(hn:ns.length<=63)(a:Nat)(cs:List T)(hc:aU (.tup cs)=true):∃r,cI [.scr ns,.int a,.tup cs] = .ok r/\(r= .non\/(bc cs r=true/\sm 8 r=true)):=by
 obtain⟨ha,h1,h4⟩:=br hc
 have hlen:=nC cs 0 ha
 have er:=u9 cs hc
 have gl:∀s4 s5 s6 s7:Sl,cl bx (ac (vr 3) ah) [.va (.scr ns),.va (.int a),.va (.tup cs),.va (.lst (dX 0 cs)),s4,s5,s6,s7] = .ok (.int ((dX 0 cs).length:Nat)):=λ_ _ _ _=>rfl
 have s1:bN (cl c6 (ac (vr 2) ah)) (gN 3) [.va (.scr ns),.va (.int a),.va (.tup cs),.em,.em,.em,.em,.em] = .ok (.nx [.va (.scr ns),.va (.int a),.va (.tup cs),.va (.lst (dX 0 cs)),.em,.em,.em,.em]):=bz (aQ (ts:=[.tup cs]) rfl er) rfl
 have lt:o2 zD (cl bx (ac (vr 3) ah)) (cn (.int 2)) [.va (.scr ns),.va (.int a),.va (.tup cs),.va (.lst (dX 0 cs)),.em,.em,.em,.em] = .ok (.bl (decide (((dX 0 cs).length:Int)<2))):=aD (t:=.int ((dX 0 cs).length:Nat)) (u:=.int 2) (gl _ _ _ _) rfl rfl
 by_cases hs:(dX 0 cs).length<2
 ·refine⟨.non,bw rfl ?_,.inl rfl⟩
  show ce [.va (.scr ns),.va (.int a),.va (.tup cs),.em,.em,.em,.em,.em] =_
  unfold ce;rw[ax s1];rw[decide_eq_true (by omega)]at lt
  exact fI ((fQ (cA lt)).trans rfl)
 ·rw[decide_eq_false (by omega)]at lt
  generalize hN:(dX 0 cs).length=n at*
  obtain⟨d1,e1,p1,q1⟩:=cM ns a (n:Int) hn (by omega)
  obtain⟨d2,e2,p2,q2⟩:=cM ns (a+1) ((n:Int) - 1) hn (by omega)
  obtain⟨d3,e3,p3,q3⟩:=cM ns (a+2) 8 hn (by omega)
  obtain⟨d4,e4,p4,q4⟩:=cM ns (a+3) 3 hn (by omega)
  obtain⟨d5,e5,p5,q5⟩:=cM ns (a+4) 9 hn (by omega)
  obtain⟨i,rfl⟩:=Int.eq_ofNat_of_zero_le p1;obtain⟨d2,rfl⟩:=Int.eq_ofNat_of_zero_le p2
  have hi:i<(dX 0 cs).length:=by omega
  have hj:(i+1+d2) % n<(dX 0 cs).length:=by rw[hN];exact Nat.mod_lt _ (by omega)
  have hij:i≠(i+1+d2) % n:=by
   rcases Nat.lt_or_ge (i+1+d2) n with q | q
   ·rw[Nat.mod_eq_of_lt q];omega
   ·have:(i+1+d2) % n=i+1+d2 - n:=by
     rw[Nat.mod_eq_sub_mod q,Nat.mod_eq_of_lt (by omega)]
    rw[this];omega
  have eA:=u4 (List.getElem_mem hi)
  have eB:=u4 (List.getElem_mem hj)
  have eN:(dX 0 cs)[i] ≠(dX 0 cs)[(i+1+d2) % n]:=uk (jm cs 0) hi hj hij
  generalize hA:(dX 0 cs)[i] =A at*
  generalize hB:(dX 0 cs)[(i+1+d2) % n] =B at*
  let y:T:=if d4 == 0 then .non else .int (d3+d5)
  refine⟨.tup [A,B,.int d3,y],bw rfl ?_,.inr ⟨?_,?_⟩⟩
  ·show ce [.va (.scr ns),.va (.int a),.va (.tup cs),.em,.em,.em,.em,.em] =_
   unfold ce;rw[ax s1];rw[ax (Z':=[.va (.scr ns),.va (.int a),.va (.tup cs),.va (.lst (dX 0 cs)),.em,.em,.em,.em]) ((dB (cA lt)).trans rfl)];rw[ax (Z':=[.va (.scr ns),.va (.int a),.va (.tup cs),.va (.lst (dX 0 cs)),.va (.int (i:Nat)),.em,.em,.em]) (bz (di e1 rfl rfl (gl _ _ _ _)) rfl)];rw[ax (Z':=[.va (.scr ns),.va (.int a),.va (.tup cs),.va (.lst (dX 0 cs)),.va (.int (i:Nat)),.va (.int ((i+1+d2) % n:Nat)),.em,.em]) (bz (t:=.int ((i+1+d2) % n:Nat)) (aD (t:=.int ((i:Int)+1+d2)) (u:=.int n) (aD (t:=.int ((i:Int)+1)) (u:=.int d2) rfl (di (k:=a+1) e2 rfl rfl (aD (t:=.int n) (u:=.int 1) (gl _ _ _ _) rfl rfl)) rfl) (gl _ _ _ _) (gA (by omega))) rfl)]
   rw[ax (Z':=[.va (.scr ns),.va (.int a),.va (.tup cs),.va (.lst (dX 0 cs)),.va (.int (i:Nat)),.va (.int ((i+1+d2) % n:Nat)),.va (.int d3),.em]) (bz (di (k:=a+2) e3 rfl rfl rfl) rfl)]
   have ey:Au (tb (o2 jM (cl au (ac (vr 0) (ac (o2 aJ (vr 1) (cn (.int 3))) (ac (cn (.int 3)) ah)))) (cn (.int 0)))) (cn .non) (o2 aJ (vr 6) (cl au (ac (vr 0) (ac (o2 aJ (vr 1) (cn (.int 4))) (ac (cn (.int 9)) ah))))) [.va (.scr ns),.va (.int a),.va (.tup cs),.va (.lst (dX 0 cs)),.va (.int (i:Nat)),.va (.int ((i+1+d2) % n:Nat)),.va (.int d3),.em] = .ok y:=by
    rw[BE (cA (aD (u:=.int 0) (di (k:=a+3) e4 rfl rfl rfl) rfl (z7 _ _)))]
    show _=Rs.ok (if d4 == 0 then T.non else .int (d3+d5))
    cases d4 == 0 with
    | true=>rfl
    | false=>exact aD (t:=.int d3) rfl (di (k:=a+4) e5 rfl rfl rfl) rfl
   rw[ax (Z':=[.va (.scr ns),.va (.int a),.va (.tup cs),.va (.lst (dX 0 cs)),.va (.int (i:Nat)),.va (.int ((i+1+d2) % n:Nat)),.va (.int d3),.va y]) (bz ey rfl)];refine cF (dA (ap (t:=A) (aD (t:=.lst (dX 0 cs)) (u:=.int (i:Nat)) rfl rfl ?_) (ap (t:=B) (aD (t:=.lst (dX 0 cs)) (u:=.int ((i+1+d2) % n:Nat)) rfl rfl ?_) (ap (t:=.int d3) rfl (ap (t:=y) rfl rfl)))) (az (k:=4) (by simp)))
   ·rw[<-hA];exact uO hi
   ·rw[<-hB];exact uO hj
  ·show(dC (.int d3) y&&(aT cs A&&(aT cs B&& !aO A B)))=true
   rw[eA,eB,pc eA eB eN]
   have:dC (.int d3) y=true:=by
    show(aM (.int d3) 0 999&&(match(T.int d3),(if d4 == 0 then T.non else .int (d3+d5))with | _,.non=>true | .int i,_=>aM (if d4 == 0 then T.non else .int (d3+d5)) i 999 | _,_=>false))=true
    cases d4 == 0 with
    | true=>simp[aM];omega
    | false=>simp[aM];omega
   rw[this];rfl
  ·refine sm_tup.mpr ⟨by simp,λt ht=> ?_⟩
   have hy:sm 8 y=true:=by show sm 8 (if d4 == 0 then T.non else .int (d3+d5))=true;cases d4 == 0 <;> simp[sm]
   simp only[List.mem_cons,List.not_mem_nil,or_false]at ht;rcases ht with rfl | rfl | rfl | rfl
   ·exact oh eA
   ·exact oh eB
   ·simp[sm]
   ·exact hy
def okv:Rs T->T
 | .ok t=>t
 | _=> .non
theorem qF (l:List T)(k:Int)(h : -(2 ^ 63)<=k/\k<2 ^ 63/\l.length*k.toNat<=sizeLine):bL (.lst l) (.int k)= .ok (.lst (List.replicate k.toNat l).flatten):=by
 show pZ (.lst l) (.int k)=_
 unfold pZ;exact if_pos h
theorem mul_one (x:T)(b:Bool):bL (.lst [x]) (.int (if b then 1 else 0))= .ok (.lst (if b then [x]else [])):=by
 cases b with
 | true=>exact qF [x] 1 ⟨by decide,by decide,az (k:=1) (by simp)⟩
 | false=>exact qF [x] 0 ⟨by decide,by decide,az (k:=1) (by simp)⟩
abbrev leF:En->Rs Fl:=ar (bN (cl cI (ac (vr 0) (ac (o2 aJ (o2 aJ (vr 1) (cn (.int 31))) (o2 bL (cn (.int 6)) (vr 5))) (ac (vr 3) ah)))) (gN 6)) (bN (o2 aJ (vr 4) (o2 bL (c7 (ac (vr 6) ah)) (cl uQ (ac (o2 d6 (vr 6) (cn .non)) ah)))) (gN 4))
def sI (cs ls:List T):Prop:=∀t∈ls,bc cs t=true/\sm 8 t=true
theorem xg (ns:List Int)(hn:ns.length<=63)(a j:Nat)(m:T)(cs ls:List T)(hc:aU (.tup cs)=true)(h:sI cs ls)(hl:ls.length<=100)(s6:Sl) :
  ∃ls2 s7,leF [.va (.scr ns),.va (.int a),.va m,.va (.tup cs),.va (.lst ls),.va (.int j),s6] = .ok (.nx [.va (.scr ns),.va (.int a),.va m,.va (.tup cs),.va (.lst ls2),.va (.int j),s7])/\sI cs ls2/\ls2.length<=ls.length+1:=by
 obtain⟨r,er,hr⟩:=sj ns hn (a+31+6*j) cs hc
 have e1:∀G,ar (bN (cl cI (ac (vr 0) (ac (o2 aJ (o2 aJ (vr 1) (cn (.int 31))) (o2 bL (cn (.int 6)) (vr 5))) (ac (vr 3) ah)))) (gN 6)) G [.va (.scr ns),.va (.int a),.va m,.va (.tup cs),.va (.lst ls),.va (.int j),s6] =G [.va (.scr ns),.va (.int a),.va m,.va (.tup cs),.va (.lst ls),.va (.int j),.va r]:=λG=>by
  refine ax (bz (t:=r) (aQ (ts:=[.scr ns,.int (a+31+6*j:Nat),.tup cs]) (ap (t:=.scr ns) rfl (ap (t:=.int (a+31+6*j:Nat)) (aD (t:=.int ((a:Int)+31)) (u:=.int (6*(j:Int))) rfl (aD (t:=.int 6) (u:=.int j) rfl rfl (jJ (by omega) (by omega))) rfl) (ap (t:=.tup cs) rfl rfl))) er) rfl)
 have e2:cl uQ (ac (o2 d6 (vr 6) (cn .non)) ah) [.va (.scr ns),.va (.int a),.va m,.va (.tup cs),.va (.lst ls),.va (.int j),.va r] = .ok (.int (if !r.isN then 1 else 0)):=aQ (ts:=[.bl (!r.isN)]) rfl rfl
 refine⟨ls++(if !r.isN then [r]else []),.va r,?_,?_,?_⟩
 ·refine(e1 _).trans (bz (aD (t:=.lst ls) (u:=.lst (if !r.isN then [r]else [])) rfl (aD (t:=.lst [r]) (gC (ts:=[r]) rfl (az (k:=1) (by simp))) e2 (mul_one _ _)) (kn _ _ ?_)) rfl)
  rw[List.length_append];cases r.isN <;> simp <;> omega
 ·intro t ht
  rcases List.mem_append.mp ht with ht | ht
  ·exact h t ht
  ·rcases hr with rfl | hr
   ·cases ht
   ·cases q:r.isN with
    | true=>rw[q]at ht;cases ht
    | false=>
     rw[q]at ht;rw[show t=r by simpa using ht]
     exact hr
 ·rw[List.length_append]
  cases r.isN <;> simp
theorem qK (ns:List Int)(hn:ns.length<=63)(a:Nat)(m:T)(cs:List T)(hc:aU (.tup cs)=true):∀(js:List Nat) (ls:List T) (s5 s6:Sl),sI cs ls->ls.length+js.length<=100 →
  ∃ls2 t5 t6,aW (gN 5) leF (js.map λ(j:Nat)=>T.int j) [.va (.scr ns),.va (.int a),.va m,.va (.tup cs),.va (.lst ls),s5,s6] = .ok (.nx [.va (.scr ns),.va (.int a),.va m,.va (.tup cs),.va (.lst ls2),t5,t6])/\sI cs ls2/\ls2.length<=ls.length+js.length
 | [],ls,s5,s6,h,_=>⟨ls,s5,s6,rfl,h,Nat.le_refl _⟩
 | j::js,ls,s5,s6,h,hl=>by
  rw[List.length_cons]at hl;obtain⟨l2,s7,e2,h2,n2⟩:=xg ns hn a j m cs ls hc h (by omega) s6
  obtain⟨l3,t5,t6,e3,h3,n3⟩:=qK ns hn a m cs hc js l2 (.va (.int j)) s7 h2 (by omega)
  refine⟨l3,t5,t6,?_,h3,by rw[List.length_cons];omega⟩
  rw[List.map_cons,dO (Z1:=[.va (.scr ns),.va (.int a),.va m,.va (.tup cs),.va (.lst ls),.va (.int j),s6]) rfl e2];exact e3
theorem Aa (ns:List Int)(hn:ns.length<=63)(a m:Nat)(hm:m<=8):∃cs ls,dW [.scr ns,.int a,.int m] = .ok (.tup [.tup cs,.tup ls])/\aU (.tup cs)=true/\cs.length<=3/\(∀c∈cs,sm 8 c=true)/\sI cs ls/\ls.length<=m:=by
 obtain⟨d1,e1,p1,q1⟩:=cM ns a 3 hn (by omega)
 obtain⟨d2,e2,p2,q2⟩:=cM ns (a+30) ((m:Int)+1) hn (by omega)
 obtain⟨d1,rfl⟩:=Int.eq_ofNat_of_zero_le p1;obtain⟨d2,rfl⟩:=Int.eq_ofNat_of_zero_le p2
 let hcl:T->T:=λt=>match t with
  | .int k=>okv (bW [.scr ns,.int ((a:Int)+1+8*k)])
  | _=> .non
 have hh:∀t∈rng 0 ((1+d1:Nat):Int),∃k:Nat,t= .int k/\bW [.scr ns,.int ((a+1+8*k:Nat):Int)] = .ok (hcl t)/\aY (hcl t)=true/\sm 8 (hcl t)=true:=λt ht=>by
  obtain⟨k,rfl,_⟩:=j8 ht;obtain⟨c,ec,h1,h2⟩:=vc ns hn (a+1+8*k)
  have e:hcl (.int k)=c:=by
   show okv (bW [.scr ns,.int ((a+1+8*k:Nat):Int)])=c
   rw[ec];rfl
  exact⟨k,rfl,by rw[e];exact ec,by rw[e];exact h1,by rw[e];exact h2⟩
 generalize hcs:(rng 0 ((1+d1:Nat):Int)).map hcl=cs
 have lc:cs.length=1+d1:=by rw[<-hcs,List.length_map,gU]
 have hc:aU (.tup cs)=true:=by
  show(dl (.tup cs) 1 4&&cs.all aY)=true
  rw[Bool.and_eq_true,List.all_eq_true];refine⟨by simp[dl];omega,λc h=> ?_⟩
  rw[<-hcs]at h;obtain⟨t,ht,rfl⟩:=List.mem_map.mp h;obtain⟨_,_,_,h1,_⟩:=hh t ht;exact h1
 have hsm:∀c∈cs,sm 8 c=true:=λc h=>by
  rw[<-hcs]at h;obtain⟨t,ht,rfl⟩:=List.mem_map.mp h;obtain⟨_,_,_,_,h1⟩:=hh t ht;exact h1
 obtain⟨ls,t5,t6,el,hl,nl⟩:=qK ns hn a (.int m) cs hc (List.range d2) [] .em .em (λt h=>by cases h) (by simp;omega)
 refine⟨cs,ls,bw rfl ?_,hc,by omega,hsm,hl,by simp at nl;omega⟩
 show dg [.va (.scr ns),.va (.int a),.va (.int m),.em,.em,.em,.em] =_
 unfold dg
 have s1:bN (cl fW (ac (eU (iR (ac (o2 aJ (cn (.int 1)) (cl au (ac (vr 0) (ac (vr 1) (ac (cn (.int 3)) ah))))) ah)) [none,some 0,some 1] (gN 0) bT (cl bW (ac (vr 1) (ac (o2 aJ (o2 aJ (vr 2) (cn (.int 1))) (o2 bL (cn (.int 8)) (vr 0))) ah)))) ah)) (gN 3) [.va (.scr ns),.va (.int a),.va (.int m),.em,.em,.em,.em] = .ok (.nx [.va (.scr ns),.va (.int a),.va (.int m),.va (.tup cs),.em,.em,.em]):=by
  refine bz (t:=.tup cs) (aQ (ts:=[.lst cs]) (ap (t:=.lst cs) ?_ rfl) rfl) rfl
  rw[<-hcs];refine o5 (ts:=rng 0 ((1+d1:Nat):Int)) (h:=hcl) (xo (ap (t:=.int ((1+d1:Nat):Int)) (aD (t:=.int 1) (u:=.int d1) rfl (di e1 rfl rfl rfl) rfl) rfl) (by omega) (by omega)) (az (k:=3) (by rw[gU];omega)) (by simp) λt ht=> ?_
  obtain⟨k,rfl,ek,_,_⟩:=hh t ht;refine aQ (ts:=[.scr ns,.int ((a+1+8*k:Nat):Int)]) (ap (t:=.scr ns) rfl (ap (aD (t:=.int ((a:Int)+1)) (u:=.int (8*(k:Int))) rfl (aD (t:=.int 8) (u:=.int k) rfl rfl (jJ (by omega) (by omega))) rfl) rfl)) ek
 rw[ax s1];rw[ax (Z':=[.va (.scr ns),.va (.int a),.va (.int m),.va (.tup cs),.va (.lst []),.em,.em]) (bz (gC (ts:=[]) rfl (az (k:=0) (by simp))) rfl)]
 rw[ax ((fR (xo (ap (di (k:=a+30) e2 rfl rfl (aD (t:=.int m) (u:=.int 1) rfl rfl rfl)) rfl) (by omega) (by omega)) (by rw[gS];exact el)))]
 exact cF (dA (ap (t:=.tup cs) rfl (ap (t:=.tup ls) rfl rfl)) (az (k:=2) (by simp)))
theorem i6 {cs:List T}{t:T}(h:bc cs t=true):∃a b x y,t= .tup [a,b,x,y]/\dC x y=true/\aT cs a=true/\aT cs b=true/\aO a b=false:=by
 unfold bc at h
 split at h
 ·simp only[Bool.and_eq_true,Bool.not_eq_true']at h
  exact⟨_,_,_,_,rfl,h.1,h.2.1,h.2.2.1,h.2.2.2⟩
 ·cases h
theorem yF {cs ls:List T}(hc:aU (.tup cs)=true)(hs:∀c∈cs,sm 8 c=true)(hl:sI cs ls)(hn:ls.length<=8):jL (.tup [.tup cs,.tup ls])=true/\sm 8 (.tup [.tup cs,.tup ls])=true:=by
 refine⟨?_,?_⟩
 ·show(aU (.tup cs)&&(dl (.tup ls) 0 8&&ls.all (bc cs)))=true
  rw[hc,Bool.true_and,Bool.and_eq_true,List.all_eq_true];exact⟨by simp[dl];exact hn,λt ht=>(hl t ht).1⟩
 ·refine sm_tup.mpr ⟨by simp,λt ht=> ?_⟩
  simp only[List.mem_cons,List.not_mem_nil,or_false]at ht;rcases ht with rfl | rfl
  ·exact sm_tup.mpr ⟨by have:=(br hc).2.2;omega,hs⟩
  ·exact sm_tup.mpr ⟨hn,λt ht=>(hl t ht).2⟩
end G
namespace Tr
open PySem
section
variable {f fa fb:En->Rs T}{fs:En->Rs (List T)}{b c:En->Rs Bool}{F G:En->Rs Fl}{Z Z' Z1 Z2:En}{t u r:T}{ts l m:List T}
mutual
theorem mE:∀(t:T),t.pl=true->aO t t=true
 | .non,_=>rfl
 | .bl a,_=>by simp[aO]
 | .int a,_=>by simp[aO]
 | .str a,_=>by simp[aO]
 | .tup l,h=>by rw[aO];exact beqTs_refl l (by unfold T.pl at h;exact h)
 | .lst l,h=>by rw[aO];exact beqTs_refl l (by unfold T.pl at h;exact h)
 | .scr _,h=>by simp[T.pl]at h
theorem beqTs_refl:∀(l:List T),plS l=true->beqTs l l=true
 | [],_=>rfl
 | t::l,h=>by
  unfold plS at h;rw[Bool.and_eq_true]at h;rw[beqTs,mE t h.1,beqTs_refl l h.2];rfl
end
theorem xb (hp:t.pl=true)(hd:t.dep<=60):jU t t= .ok (.bl false):=by
 unfold jU;rw[if_pos (fS hd (T.pl_nd _ hp) (T.pl_nd _ hp)),mE t hp];rfl
theorem ir:∀{l:List T},(∀t∈l,t.pl=true)->plS l=true
 | [],_=>rfl
 | t::l,h=>by unfold plS;rw[h t List.mem_cons_self,ir λu hu=>h u (List.mem_cons_of_mem _ hu)];rfl
end
end Tr
namespace G
open PySem Tr
def dr (r:List Int)(k:Nat):Int:=r.getD (k+1) 0 - r.getD k 0
def pr (n:Nat)(x y:Int)(r:List Int)(k:Nat):List T:=
 [.tup [.tup [.int n,.int k],.tup [.int n,.int ((k+1:Nat):Int)],.int (dr r k*y)],.tup [.tup [.int n,.int ((k+1:Nat):Int)],.tup [.int n,.int k],.int (-dr r k*x)]]
def cB (n:Nat)(x y:Int)(r:List Int):List T:=(List.range (r.length - 1)).flatMap (pr n x y r)
abbrev vn (n:Nat)(x y:Int)(r:List Int)(acc:List T)(s4 s5 s6 s7:Sl):En:=[.va (.int n),.va (.tup [.int x,.int y,.tup (r.map .int)]),.va (.tup (r.map .int)),.ow (.lst acc),s4,s5,s6,s7]
abbrev bcF:En->Rs Fl:=(ar (bN (bq (ac (vr 0) (ac (vr 4) ah))) (gN 5)) (ar (bN (bq (ac (vr 0) (ac (o2 aJ (vr 4) (cn (.int 1))) ah))) (gN 6)) (ar (bN (o2 eF (o2 aN (vr 2) (o2 aJ (vr 4) (cn (.int 1)))) (o2 aN (vr 2) (vr 4))) (gN 7)) (ar (jR 3 (bq (ac (vr 5) (ac (vr 6) (ac (o2 bL (vr 7) (o2 aN (vr 1) (cn (.int 1)))) ah))))) (jR 3 (bq (ac (vr 6) (ac (vr 5) (ac (o2 bL (o1 oU (vr 7)) (o2 aN (vr 1) (cn (.int 0)))) ah)))))))))
theorem qX {r:List Int}{k:Nat}(h:k<r.length):(r.map T.int)[k]? =some (.int (r.getD k 0)):=by
 rw[List.getElem?_map,List.getElem?_eq_getElem h]
 simp[h]
theorem xI (n:Nat)(x y:Int)(r:List Int)(acc:List T)(k:Nat)(s5 s6 s7:Sl)(hk:k+1<r.length)(hx:0<=x/\x<=9)(hy:0<=y/\y<=9)(ha:acc.length<=100) :
  bcF (vn n x y r acc (.va (.int k)) s5 s6 s7)= .ok (.nx (vn n x y r (acc++pr n x y r k) (.va (.int k)) (.va (.tup [.int n,.int k])) (.va (.tup [.int n,.int ((k+1:Nat):Int)])) (.va (.int (dr r k))))):=by
 have h2:([T.int n,T.int k]:List T).length<=sizeLine:=az (k:=2) (by simp)
 have ek:((k:Int)+1)=((k+1:Nat):Int):=by omega
 refine(ax (Z':=vn n x y r acc (.va (.int k)) (.va (.tup [.int n,.int k])) s6 s7) (bz (dA rfl (az (k:=2) (by simp))) rfl)).trans ?_
 refine(ax (Z':=vn n x y r acc (.va (.int k)) (.va (.tup [.int n,.int k])) (.va (.tup [.int n,.int ((k+1:Nat):Int)])) s7) (bz (dA (ap rfl (ap (t:=.int ((k+1:Nat):Int)) (aD (t:=.int k) (u:=.int 1) rfl rfl (congrArg (λz=>Rs.ok (T.int z)) ek)) rfl)) (az (k:=2) (by simp))) rfl)).trans ?_
 refine(ax (Z':=vn n x y r acc (.va (.int k)) (.va (.tup [.int n,.int k])) (.va (.tup [.int n,.int ((k+1:Nat):Int)])) (.va (.int (dr r k)))) (bz (t:=.int (dr r k)) (aD (t:=.int (r.getD (k+1) 0)) (u:=.int (r.getD k 0)) (sd (n:=k+1) rfl (aD (t:=.int k) (u:=.int 1) rfl rfl (congrArg (λz=>Rs.ok (T.int z)) ek)) (qX hk)) (sd (n:=k) rfl rfl (qX (by omega))) rfl) rfl)).trans ?_
 refine(ax (Z':=vn n x y r (acc++ [.tup [.tup [.int n,.int k],.tup [.int n,.int ((k+1:Nat):Int)],.int (dr r k*y)]]) (.va (.int k)) (.va (.tup [.int n,.int k])) (.va (.tup [.int n,.int ((k+1:Nat):Int)])) (.va (.int (dr r k)))) (qR (l:=acc) (dA (ap rfl (ap rfl (ap (aD (t:=.int (dr r k)) (u:=.int y) rfl rfl (uq (by omega) (by omega))) rfl))) (az (k:=3) (by simp))) rfl (by omega))).trans ?_
 refine(qR (l:=acc++ [.tup [.tup [.int n,.int k],.tup [.int n,.int ((k+1:Nat):Int)],.int (dr r k*y)]]) (dA (ap rfl (ap rfl (ap (aD (t:=.int (-dr r k)) (u:=.int x) rfl rfl (uq (by omega) (by omega))) rfl))) (az (k:=3) (by simp))) rfl (by rw[List.length_append];simp;omega)).trans ?_
 rw[List.append_assoc]
 rfl
theorem rq (n:Nat)(x y:Int)(r:List Int)(hx:0<=x/\x<=9)(hy:0<=y/\y<=9):∀(js:List Nat) (acc:List T) (s4 s5 s6 s7:Sl),(∀k∈js,k+1<r.length)->acc.length+2*js.length<=100 →
  ∃t4 t5 t6 t7,aW (gN 4) bcF (js.map λ(k:Nat)=>T.int k) (vn n x y r acc s4 s5 s6 s7)= .ok (.nx (vn n x y r (acc++js.flatMap (pr n x y r)) t4 t5 t6 t7))
 | [],acc,s4,s5,s6,s7,_,_=>⟨s4,s5,s6,s7,by simp[aW]⟩
 | k::js,acc,s4,s5,s6,s7,hk,hl=>by
  rw[List.length_cons]at hl
  have e:=xI n x y r acc k s5 s6 s7 (hk k List.mem_cons_self) hx hy (by omega)
  obtain⟨t4,t5,t6,t7,ih⟩:=rq n x y r hx hy js (acc++pr n x y r k) (.va (.int k)) (.va (.tup [.int n,.int k])) (.va (.tup [.int n,.int ((k+1:Nat):Int)])) (.va (.int (dr r k))) (λj hj=>hk j (List.mem_cons_of_mem _ hj)) (by rw[List.length_append];simp[pr];omega)
  refine⟨t4,t5,t6,t7,?_⟩
  rw[List.map_cons,dO (Z1:=vn n x y r acc (.va (.int k)) s5 s6 s7) rfl e,ih,List.flatMap_cons,List.append_assoc]
theorem vf (n:Nat)(x y:Int)(r:List Int)(hx:0<=x/\x<=9)(hy:0<=y/\y<=9)(h1:1<=r.length)(h4:r.length<=4):bV [.int n,.tup [.int x,.int y,.tup (r.map .int)]] = .ok (.lst (cB n x y r)):=by
 refine bw rfl ?_
 show bZ [.va (.int n),.va (.tup [.int x,.int y,.tup (r.map .int)]),.em,.em,.em,.em,.em,.em] =_
 unfold bZ;rw[ax (Z':=[.va (.int n),.va (.tup [.int x,.int y,.tup (r.map .int)]),.va (.tup (r.map .int)),.em,.em,.em,.em,.em]) (bz (t:=.tup (r.map .int)) rfl rfl)];rw[ax (Z':=vn n x y r [] .em .em .em .em) rfl];obtain⟨t4,t5,t6,t7,e⟩:=rq n x y r hx hy (List.range (r.length - 1)) [] .em .em .em .em (λk hk=>by have:=List.mem_range.mp hk;omega) (by simp;omega)
 have e1:iR (ac (o2 eF (cl bx (ac (vr 2) ah)) (cn (.int 1))) ah) (vn n x y r [] .em .em .em .em)= .ok (rng 0 ((r.length - 1:Nat):Int)):=by
  refine xo (j:=((r.length - 1:Nat):Int)) (ap (aD (t:=.int (r.length:Nat)) (u:=.int 1) (aQ (ts:=[.tup (r.map .int)]) rfl (by show Rs.ok (T.int ((r.map T.int).length:Nat))=_;rw[List.length_map])) rfl (congrArg (λz=>Rs.ok (T.int z)) (by omega))) rfl) (by omega) (by omega)
 rw[ax ((fR (ts:=(List.range (r.length - 1)).map λ(k:Nat)=>T.int k) (by rw[e1,gS]) e))]
 rfl
theorem iz {t:T}(h:aY t=true):∃(x y:Int) (r:List Int),t= .tup [.int x,.int y,.tup (r.map .int)]/\(0<=x/\x<=9)/\(0<=y/\y<=9)/\1<=r.length/\r.length<=4:=by
 obtain⟨x,y,r,rfl,h1,h4⟩:=ee h
 have h':(jS x y&&bY (.tup r))=true:=h;rw[Bool.and_eq_true]at h';obtain⟨hp,hr⟩:=h';unfold jS at hp;rw[Bool.and_eq_true]at hp;obtain⟨i,rfl,i1,i2⟩:=cz hp.1;obtain⟨j,rfl,j1,j2⟩:=cz (t:=y) (a:=i) (b:=9) hp.2;unfold bY at hr;rw[Bool.and_eq_true]at hr
 have hr2:((r.all λu=>aM u 0 99)&&(match ix r with | some m=>j9 m | none=>false))=true:=hr.2
 rw[Bool.and_eq_true]at hr2;obtain⟨m,em⟩:=ni hr2.1
 have e:=kX em;subst e;rw[List.length_map]at h1 h4;exact⟨i,j,m,rfl,⟨by omega,by omega⟩,⟨by omega,by omega⟩,h1,h4⟩
def xB (n:Nat)(t:T):List T:=match t with
 | .tup [.int x,.int y,.tup r] =>match ix r with
  | some m=>cB n x y m
  | none=> []
 | _=> []
def bC:Nat->List T->List T
 | _,[] => []
 | i,c::r=>xB i c++bC (i+1) r
def lB (t:T):List T:=match t with
 | .tup [a,b,.int le,mo] => .tup [b,a,.int (-le)] ::(if mo.isN then []else [.tup [a,b,mo]])
 | _=> []
def je (cs ls:List T):List T:=bC 0 cs++ls.flatMap lB
theorem nZ (n:Nat)(x y:Int)(r:List Int):xB n (.tup [.int x,.int y,.tup (r.map .int)])=cB n x y r:=by
 unfold xB;simp only[iX]
theorem Ak (n:Nat)(x y:Int)(r:List Int):(cB n x y r).length=2*(r.length - 1):=by
 unfold cB;rw[List.length_flatMap]
 have:∀l:List Nat,(l.map λk=>(pr n x y r k).length).sum=2*l.length:=by
  intro l
  induction l with
  | nil=>rfl
  | cons a l ih=>rw[List.map_cons,List.sum_cons,ih,List.length_cons];simp[pr];omega
 rw[this,List.length_range]
theorem sT {n:Nat}{t:T}(h:aY t=true):(xB n t).length<=6:=by
 obtain⟨x,y,r,rfl,_,_,h1,h4⟩:=iz h;rw[nZ,Ak];omega
theorem qi:∀{cs:List T} {i:Nat},(∀c∈cs,aY c=true)->(bC i cs).length<=6*cs.length
 | [],i,_=>by simp[bC]
 | c::cs,i,h=>by
  rw[bC,List.length_append,List.length_cons]
  have:=sT (n:=i) (h c List.mem_cons_self)
  have:=qi (cs:=cs) (i:=i+1) λc hc=>h c (List.mem_cons_of_mem _ hc)
  omega
theorem p8 (t:T):(lB t).length<=2:=by
 unfold lB;split
 ·rename_i a b le mo
  cases mo.isN <;> simp
 ·simp
theorem qO:∀(ls:List T),(ls.flatMap lB).length<=2*ls.length
 | [] =>by simp
 | t::ls=>by
  rw[List.flatMap_cons,List.length_append,List.length_cons]
  have:=p8 t
  have:=qO ls;omega
theorem oZ {cs:List T}{t:T}(h:bc cs t=true):∃(a b mo:T) (le:Int),t= .tup [a,b,.int le,mo]/\aT cs a=true/\aT cs b=true:=by
 obtain⟨a,b,x,y,rfl,hd,ha,hb,_⟩:=i6 h;unfold dC at hd;rw[Bool.and_eq_true]at hd;obtain⟨i,rfl,_⟩:=cz hd.1;exact⟨a,b,y,i,rfl,ha,hb⟩
theorem mq {cs:List T}{t:T}(h:bc cs t=true):aV [t] = .ok (.lst (lB t)):=by
 obtain⟨a,b,mo,le,rfl,_,_⟩:=oZ h;refine bw rfl ?_
 show bM [.va (.tup [a,b,.int le,mo]),.em] =_
 unfold bM;rw[ax (Z':=[.va (.tup [a,b,.int le,mo]),.ow (.lst [.tup [b,a,.int (-le)]])]) (uK (l:=[.tup [b,a,.int (-le)]]) (ap (dA (ap rfl (ap rfl (ap rfl rfl))) (az (k:=3) (by simp))) rfl) (by simp) (by simp))]
 have e:∀(Z:En) l,Z= [.va (.tup [a,b,.int le,mo]),.ow (.lst l)]->o2 d6 (o2 aN (vr 0) (cn (.int 3))) (cn .non) Z= .ok (.bl (!mo.isN)):=λZ l z=>by subst z;rfl
 have e2:lB (.tup [a,b,.int le,mo])= .tup [b,a,.int (-le)] ::(if mo.isN then []else [.tup [a,b,mo]]):=rfl
 rw[e2]
 cases q:mo.isN with
 | true=>
  rw[ax (Z':=[.va (.tup [a,b,.int le,mo]),.ow (.lst [.tup [b,a,.int (-le)]])]) ((dB (cA (by rw[e _ _ rfl,q];rfl))).trans rfl)]
  rfl
 | false=>
  rw[ax (Z':=[.va (.tup [a,b,.int le,mo]),.ow (.lst ([.tup [b,a,.int (-le)]] ++ [.tup [a,b,mo]]))]) ((fQ (cA (by rw[e _ _ rfl,q];rfl))).trans (qR (l:=[.tup [b,a,.int (-le)]]) (dA (ap rfl (ap rfl (ap rfl rfl))) (az (k:=3) (by simp))) rfl (by simp)))]
  rfl
abbrev bdF:En->Rs Fl:=kH 1 (cl bV (ac (vr 2) (ac (vr 3) ah)))
abbrev bdG:T->En->Rs En:=gT 2 (nA (gN 2) (nA (gN 3) uU))
theorem rp (R:T)(s4:Sl):∀(cs:List T) (acc:List T) (i:Nat) (s2 s3:Sl),(∀c∈cs,aY c=true)->acc.length+6*cs.length<=100 →
  ∃y2 y3,aW bdG bdF (bp i cs) [.va R,.ow (.lst acc),s2,s3,s4] = .ok (.nx [.va R,.ow (.lst (acc++bC i cs)),y2,y3,s4])
 | [],acc,i,s2,s3,_,_=>⟨s2,s3,by simp[bp,aW,bC]⟩
 | c::cs,acc,i,s2,s3,hc,hl=>by
  have h0:=hc c List.mem_cons_self
  have hx:=sT (n:=i) h0;obtain⟨x,y,r,rfl,a1,a2,a3,a4⟩:=iz h0;rw[List.length_cons]at hl;rw[nZ]at hx
  have st:bdF [.va R,.ow (.lst acc),.va (.int i),.va (.tup [.int x,.int y,.tup (r.map .int)]),s4] = .ok (.nx [.va R,.ow (.lst (acc++cB i x y r)),.va (.int i),.va (.tup [.int x,.int y,.tup (r.map .int)]),s4]):=
   uL (l:=acc) (aQ (ts:=[.int i,.tup [.int x,.int y,.tup (r.map .int)]]) rfl (vf i x y r a1 a2 a3 a4)) rfl (by omega)
  obtain⟨z2,z3,ih⟩:=rp R s4 cs (acc++cB i x y r) (i+1) (.va (.int i)) (.va (.tup [.int x,.int y,.tup (r.map .int)])) (λc h=>hc c (List.mem_cons_of_mem _ h)) (by rw[List.length_append];omega)
  refine⟨z2,z3,?_⟩
  rw[bp,dO (Z1:=[.va R,.ow (.lst acc),.va (.int i),.va (.tup [.int x,.int y,.tup (r.map .int)]),s4]) rfl st,ih,bC,nZ,List.append_assoc]
abbrev blF:En->Rs Fl:=kH 1 (cl aV (ac (vr 4) ah))
theorem ro (R:T)(cs:List T)(s2 s3:Sl):∀(ls:List T) (acc:List T) (s4:Sl),(∀t∈ls,bc cs t=true)->acc.length+2*ls.length<=100 →
  ∃y4,aW (gN 4) blF ls [.va R,.ow (.lst acc),s2,s3,s4] = .ok (.nx [.va R,.ow (.lst (acc++ls.flatMap lB)),s2,s3,y4])
 | [],acc,s4,_,_=>⟨s4,by simp[aW]⟩
 | t::ls,acc,s4,hl,hn=>by
  rw[List.length_cons]at hn
  have:=p8 t
  have st:blF [.va R,.ow (.lst acc),s2,s3,.va t] = .ok (.nx [.va R,.ow (.lst (acc++lB t)),s2,s3,.va t]):=uL (l:=acc) (aQ (ts:=[t]) rfl (mq (hl t List.mem_cons_self))) rfl (by omega)
  obtain⟨y4,ih⟩:=ro R cs s2 s3 ls (acc++lB t) (.va t) (λu h=>hl u (List.mem_cons_of_mem _ h)) (by rw[List.length_append];omega)
  refine⟨y4,?_⟩
  rw[dO (Z1:=[.va R,.ow (.lst acc),s2,s3,.va t]) rfl st,ih,List.flatMap_cons,List.append_assoc]
theorem kY {R:T}(hp:R.pl=true)(h:jL R=true):bF [R] = .ok .non:=by
 refine uG (Z:=[.va R]) rfl ?_
 show c9 [.va R] =_
 unfold c9;exact(dB ((ik (k:=true) (cA (aQ (ts:=[R]) rfl (by rw[u7 R hp,h])))))).trans rfl
structure Good (cs ls:List T):Prop where
 c:aU (.tup cs)=true
 l:∀t∈ls,bc cs t=true
 n:ls.length<=8
 p:(T.tup [.tup cs,.tup ls]).pl=true
theorem Good.ok {cs ls:List T}(g:Good cs ls):jL (.tup [.tup cs,.tup ls])=true:=by
 show(aU (.tup cs)&&(dl (.tup ls) 0 8&&ls.all (bc cs)))=true
 rw[g.c,Bool.true_and,Bool.and_eq_true,List.all_eq_true];exact⟨by simp[dl];exact g.n,g.l⟩
theorem ph {cs ls:List T}(g:Good cs ls):bj [.tup [.tup cs,.tup ls]] = .ok (.lst (je cs ls)):=by
 obtain⟨hc,c1,c4⟩:=br g.c
 have hn:=g.n;refine bw rfl ?_
 show gO [.va (.tup [.tup cs,.tup ls]),.em,.em,.em,.em] =_
 unfold gO;rw[ax (xj (t:=.non) (aQ (ts:=[.tup [.tup cs,.tup ls]]) rfl (kY g.p g.ok)))];rw[ax (Z':=[.va (.tup [.tup cs,.tup ls]),.ow (.lst []),.em,.em,.em]) (p9 (by simp))]
 obtain⟨y2,y3,e⟩:=rp (.tup [.tup cs,.tup ls]) .em cs [] 0 .em .em hc (by simp;omega)
 rw[ax ((fR (ts:=bp 0 cs) rfl e))]
 have:=qi (i:=0) hc;obtain⟨y4,e2⟩:=ro (.tup [.tup cs,.tup ls]) cs y2 y3 ls ([] ++bC 0 cs) .em g.l (by rw[List.nil_append];omega)
 rw[ax ((fR (ts:=ls) rfl e2))]
 rfl
theorem gy {l:List T}:(T.tup l).pl=plS l:=by unfold T.pl;rfl
theorem Good.parts {cs ls:List T}(g:Good cs ls):(T.tup cs).pl=true/\∀t∈ls,t.pl=true:=by
 have:=g.p;rw[gy]at this;unfold plS at this;rw[Bool.and_eq_true]at this
 have h2:=this.2;unfold plS at h2;rw[Bool.and_eq_true,gy]at h2;exact⟨this.1,λt ht=>fZ h2.1 ht⟩
theorem Good.sub {cs ls ms:List T}(g:Good cs ls)(hm:∀t∈ms,t∈ls)(hn:ms.length<=8):Good cs ms:=⟨g.c,λt ht=>g.l t (hm t ht),hn,by
 obtain⟨h1,h2⟩:=g.parts;rw[gy];refine ir λt ht=> ?_
 simp only[List.mem_cons,List.not_mem_nil,or_false]at ht;rcases ht with rfl | rfl
 ·exact h1
 ·rw[gy];exact ir λt ht=>h2 t (hm t ht)⟩
theorem Good.take {cs ls:List T}(g:Good cs ls)(n:Nat):Good cs (ls.take n):=g.sub (λt ht=>List.mem_of_mem_take ht) (by rw[List.length_take];have:=g.n;omega)
theorem nv {a:Nat}(h:a<=100):o7 (a:Int)=true:=by unfold o7;simp;omega
theorem yA {t:T}(h:sm 8 t=true):t.pl=true:=xX t h
abbrev peF:En->Rs Fl:=kH 1 (eU (iR (ac (cl bx (ac (o2 aN (vr 3) (cn (.int 2))) ah)) ah)) [none,some 2] (gN 0) bT (bq (ac (vr 1) (ac (vr 0) ah))))
theorem tV (c0 s1:Sl)(x y:T)(r:List T)(i:Nat)(h:r.length<=4) :
  eU (iR (ac (cl bx (ac (o2 aN (vr 3) (cn (.int 2))) ah)) ah)) [none,some 2] (gN 0) bT (bq (ac (vr 1) (ac (vr 0) ah))) [c0,s1,.va (.int i),.va (.tup [x,y,.tup r])] = .ok (.lst (jY i r.length)):=
 o5 (xo (j:=(r.length:Int)) rfl (by omega) (by omega)) (az (k:=4) (by rw[gU];exact h)) (by simp) λt _=>mk2 _ _
theorem qB:∀(cs:List T) (c0:T) (acc:List T) (i:Nat) (s2 s3:Sl),(∀c∈cs,aY c=true)->acc.length+4*cs.length<=100 →
  ∃y2 y3,aW evG peF (bp i cs) [.va c0,.ow (.lst acc),s2,s3] = .ok (.nx [.va c0,.ow (.lst (acc++dX i cs)),y2,y3])
 | [],c0,acc,i,s2,s3,_,_=>⟨s2,s3,by simp[bp,aW,dX]⟩
 | c::cs,c0,acc,i,s2,s3,hc,hl=>by
  obtain⟨x,y,r,rfl,r1,r2⟩:=ee (hc c List.mem_cons_self);rw[List.length_cons]at hl
  have st:peF [.va c0,.ow (.lst acc),.va (.int i),.va (.tup [x,y,.tup r])] = .ok (.nx [.va c0,.ow (.lst (acc++jY i r.length)),.va (.int i),.va (.tup [x,y,.tup r])]):=uL (l:=acc) (tV _ _ x y r i r2) rfl (by rw[fT];omega)
  obtain⟨z2,z3,ih⟩:=qB cs c0 (acc++jY i r.length) (i+1) (.va (.int i)) (.va (.tup [x,y,.tup r])) (λc h=>hc c (List.mem_cons_of_mem _ h)) (by rw[List.length_append,fT];omega)
  refine⟨z2,z3,?_⟩
  rw[bp,dO (Z1:=[.va c0,.ow (.lst acc),.va (.int i),.va (.tup [x,y,.tup r])]) rfl st,ih,dX,List.append_assoc]
  rfl
theorem ua {cs ls:List T}(g:Good cs ls):ck [.tup [.tup cs,.tup ls]] = .ok (.lst (dX 0 cs)):=by
 obtain⟨hc,c1,c4⟩:=br g.c;refine bw rfl ?_
 show gL [.va (.tup [.tup cs,.tup ls]),.em,.em,.em] =_
 unfold gL;rw[ax (xj (t:=.non) (aQ (ts:=[.tup [.tup cs,.tup ls]]) rfl (kY g.p g.ok)))];rw[ax (Z':=[.va (.tup [.tup cs,.tup ls]),.ow (.lst []),.em,.em]) (p9 (by simp))]
 obtain⟨y2,y3,e⟩:=qB cs (.tup [.tup cs,.tup ls]) [] 0 .em .em hc (by simp;omega)
 rw[ax ((fR (ts:=bp 0 cs) rfl e))]
 rfl
theorem p2 {a b:En->Rs T}{t u:T}{Z:En}(ha:a Z= .ok t)(hb:b Z= .ok u):bq (ac a (ac b ah)) Z= .ok (.tup [t,u]):=dA (ap ha (ap hb rfl)) (az (k:=2) (by simp))
theorem rH {l:List T}:fW [.lst l] = .ok (.tup l):=rfl
theorem km {cs ls:List T}(g:Good cs ls):(je cs ls).length<=60:=by
 unfold je;rw[List.length_append];obtain⟨hc,c1,c4⟩:=br g.c
 have:=qi (i:=0) hc
 have:=qO ls
 have:=g.n;omega
end G
namespace Gr
variable {ν:Type}[DecidableEq ν]
abbrev bB (ν:Type):=List (ν×ν×Int)
inductive Wk (L:bB ν):ν->ν->Int->Prop
 | nil (a:ν):Wk L a a 0
 | step {a b c:ν} {m s:Int}:(a,b,m)∈L->Wk L b c s->Wk L a c (m+s)
theorem Wk.one {L:bB ν}{a b:ν}{m:Int}(h:(a,b,m)∈L):Wk L a b m:=by
 have:=Wk.step h (Wk.nil (L:=L) b)
 rwa [Int.add_zero]at this
theorem Wk.app {L:bB ν}{a b c:ν}{s t:Int}(h:Wk L a b s)(k:Wk L b c t):Wk L a c (s+t):=by
 induction h with
 | nil a=>rwa [Int.zero_add]
 | step e _ ih=>rw[Int.add_assoc];exact .step e (ih k)
def Holds (L:bB ν)(t:ν->Int):Prop:=∀a b m,(a,b,m)∈L->t b - t a<=m
theorem Holds.walk {L:bB ν}{t:ν->Int}(h:Holds L t){a b:ν}{s:Int}(w:Wk L a b s):t b - t a<=s:=by
 induction w with
 | nil a=>omega
 | step e _ ih=>have:=h _ _ _ e;omega
def gI (L:bB ν):Prop:=∀a s,Wk L a a s->0<=s
theorem Holds.noNeg {L:bB ν}{t:ν->Int}(h:Holds L t):gI L:=λa s w=>by have:=h.walk w;omega
def Ch (L:bB ν):ν->List Nat->ν->Prop
 | a,[],b=>a=b
 | a,k::r,b=> ∃c m,L[k]? =some (a,c,m)/\Ch L c r b
def most (L:bB ν)(k:Nat):Int:=match L[k]? with
 | some x=>x.2.2
 | none=>0
def bQ (L:bB ν):List Nat->Int
 | [] =>0
 | k::r=>most L k+bQ L r
theorem gH (L:bB ν):∀(p q:List Nat),bQ L (p++q)=bQ L p+bQ L q
 | [],q=>by simp[bQ]
 | k::p,q=>by rw[List.cons_append,bQ,bQ,gH L p q];omega
theorem Ch.wk {L:bB ν}:∀{ks:List Nat} {a b:ν},Ch L a ks b->Wk L a b (bQ L ks)
 | [],a,b,h=>by cases h;exact .nil a
 | k::r,a,b,⟨c,m,e,h⟩=>by
  have:bQ L (k::r)=m+bQ L r:=by rw[bQ,most,e]
  rw[this];exact .step (List.mem_of_getElem? e) h.wk
theorem Ch.app {L:bB ν}:∀{p q:List Nat} {a b c:ν},Ch L a p b->Ch L b q c->Ch L a (p++q) c
 | [],q,a,b,c,h,k=>by cases h;exact k
 | x::p,q,a,b,c,⟨d,m,e,h⟩,k=>⟨d,m,e,Ch.app h k⟩
theorem Ch.lt {L:bB ν}:∀{ks:List Nat} {a b:ν},Ch L a ks b->∀k∈ks,k<L.length
 | [],_,_,_,k,hk=>by simp at hk
 | x::r,a,b,⟨c,m,e,h⟩,k,hk=>by
  rcases List.mem_cons.mp hk with rfl | hk
  ·exact(List.getElem?_eq_some_iff.mp e).1
  ·exact h.lt k hk
theorem Ch.snoc {L:bB ν}{p:List Nat}{k:Nat}{a b c:ν}{m:Int}(h:Ch L a p b)(e:L[k]? =some (b,c,m)):Ch L a (p++ [k]) c:=h.app ⟨c,m,e,rfl⟩
def src (L:bB ν)(k:Nat):Option ν:=(L[k]?).map (·.1)
abbrev bR (ν:Type):=ν->Option (Int×List Nat)
def put (b:bR ν)(v:ν)(x:Int×List Nat):bR ν:=λu=>if u=v then some x else b u
theorem dy {b:bR ν}{v:ν}{x:Int×List Nat}:put b v x v=some x:=by unfold put;rw[if_pos rfl]
theorem iq {b:bR ν}{u v:ν}{x:Int×List Nat}(h:u≠v):put b v x u=b u:=by unfold put;rw[if_neg h]
def dI (L:bB ν)(ks:List Nat):List ν:=ks.filterMap (src L)
def dE (b:bR ν)(v:ν)(d:Int):Bool:=match b v with
 | none=>true
 | some x=>decide (d<x.1)
def fO (L:bB ν)(b:bR ν)(k:Nat)(x:ν×ν×Int):Sum (Option (bR ν)) (List Nat):=match b x.1 with
 | none=> .inl none
 | some (d,w)=>if dE b x.2.1 (d+x.2.2)=true then
   if x.2.1∈dI L (w++ [k])then .inr ((w++ [k]).drop ((dI L (w++ [k])).idxOf x.2.1))else .inl (some (put b x.2.1 (d+x.2.2,w++ [k])))
  else .inl none
def gd (L:bB ν):Nat->bB ν->bR ν->Bool->Sum (bR ν×Bool) (List Nat)
 | _,[],b,mv=> .inl (b,mv)
 | k,x::r,b,mv=>match fO L b k x with
  | .inr q=> .inr q
  | .inl none=>gd L (k+1) r b mv
  | .inl (some b')=>gd L (k+1) r b' true
def settle (L:bB ν):Nat->bR ν->Option (Sum (bR ν) (List Nat))
 | 0,_=>none
 | n+1,b=>match gd L 0 L b false with
  | .inr q=>some (.inr q)
  | .inl (b',true)=>settle L n b'
  | .inl (b',false)=>some (.inl b')
theorem m4 (L:bB ν)(p q:List Nat):dI L (p++q)=dI L p++dI L q:=by unfold dI;rw[List.filterMap_append]
theorem m3 {L:bB ν}{k:Nat}{x:ν×ν×Int}(e:L[k]? =some x):dI L [k] = [x.1]:=by unfold dI src;simp[e]
theorem Ch.pas_cons {L:bB ν}{k:Nat}{r:List Nat}{a b:ν}(h:Ch L a (k::r) b):dI L (k::r)=a::dI L r:=by
 obtain⟨c,m,e,_⟩:=h;rw[show k::r= [k] ++r from rfl,m4,m3 e];rfl
theorem Ch.cut {L:bB ν}{v:ν}:∀{ks:List Nat} {a b:ν},Ch L a ks b->v∈dI L ks->Ch L a (ks.take ((dI L ks).idxOf v)) v/\Ch L v (ks.drop ((dI L ks).idxOf v)) b/\(dI L ks).idxOf v<ks.length
 | [],a,b,_,hv=>by simp[dI]at hv
 | k::r,a,b,h,hv=>by
  rw[h.pas_cons]at hv ⊢
  have h0:=h;obtain⟨c,m,e,h⟩:=h
  by_cases z:a=v
  ·subst z
   rw[List.idxOf_cons_self];exact⟨rfl,h0,by simp⟩
  ·have hv':v∈dI L r:=by
    rcases List.mem_cons.mp hv with q | q
    ·exact absurd q.symm z
    ·exact q
   obtain⟨h1,h2,h3⟩:=h.cut hv'
   have ei:(a::dI L r).idxOf v=(dI L r).idxOf v+1:=by
    rw[List.idxOf_cons]
    have:(a == v)=false:=by rw[beq_eq_false_iff_ne];exact z
    rw[this];rfl
   rw[ei];exact⟨⟨c,m,e,h1⟩,h2,by simpa using h3⟩
structure Kept (L:bB ν)(S:List ν)(b:bR ν):Prop where
 walk:∀v d w,b v=some (d,w)->∃s∈S,Ch L s w v/\bQ L w=d/\v∉dI L w/\(dI L w).Nodup/\∀p q u,w=p++q->Ch L s p u->∃d' w',b u=some (d',w')/\d'<=bQ L p
 start:∀s∈S,∃d w,b s=some (d,w)/\d<=0
theorem Kept.put {L:bB ν}{S:List ν}{b:bR ν}(K:Kept L S b){k:Nat}{a c:ν}{m d:Int}{w:List Nat}(e:L[k]? =some (a,c,m))(ha:b a=some (d,w))(hb:dE b c (d+m)=true)(hn:c∉dI L (w++ [k])) :
  Kept L S (put b c (d+m,w++ [k])):=by
 have low:∀u d' w',b u=some (d',w')->∃d'' w'',Gr.put b c (d+m,w++ [k]) u=some (d'',w'')/\d''<=d':=λu d' w' h=>by
  by_cases z:u=c
  ·subst z
   refine⟨_,_,dy,?_⟩
   unfold dE at hb;rw[h]at hb
   have:=of_decide_eq_true hb;omega
  ·exact⟨d',w',by rw[iq z];exact h,Int.le_refl _⟩
 obtain⟨s,hs,h1,h2,h3,h4,h5⟩:=K.walk a d w ha
 have hch:Ch L s (w++ [k]) c:=h1.snoc e
 have hcost:bQ L (w++ [k])=d+m:=by rw[gH,h2,bQ,bQ,most,e];simp
 refine⟨λv d' w' h=> ?_,λs' hs'=> ?_⟩
 ·by_cases z:v=c
  ·subst z
   rw[dy]at h;cases h;refine⟨s,hs,hch,hcost,hn,?_,λp q u hpq hp=> ?_⟩
   ·rw[m4,m3 e]
    exact List.nodup_append.mpr ⟨h4,by simp,λx hx y hy=>by simp at hy;subst hy;exact λz=>h3 (z▸hx)⟩
   ·by_cases hq:q= []
    ·subst hq
     rw[List.append_nil]at hpq;subst hpq
     have:u=v:=by
      clear low hb hn h5
      have aux:∀{ks:List Nat} {x y z:ν},Ch L x ks y->Ch L x ks z->y=z:=by
       intro ks
       induction ks with
       | nil=>intro x y z h1 h2;cases h1;cases h2;rfl
       | cons k r ih=>
        rintro x y z ⟨c1,m1,e1,r1⟩ ⟨c2,m2,e2,r2⟩
        rw[e1]at e2;cases e2;exact ih r1 r2
      exact aux hp hch
     subst this;exact⟨_,_,dy,by rw[hcost];exact Int.le_refl _⟩
    ·have hw:∃q',w=p++q':=by
      refine⟨q.dropLast,?_⟩
      have:=congrArg List.dropLast hpq;rw[List.dropLast_concat,List.dropLast_append_of_ne_nil hq]at this;exact this
     obtain⟨q',hw⟩:=hw;obtain⟨d1,w1,e1,l1⟩:=h5 p q' u hw hp;obtain⟨d2,w2,e2,l2⟩:=low u d1 w1 e1;exact⟨d2,w2,e2,by omega⟩
  ·rw[iq z]at h
   obtain⟨s',hs',g1,g2,g3,g4,g5⟩:=K.walk v d' w' h;refine⟨s',hs',g1,g2,g3,g4,λp q u hpq hp=> ?_⟩
   obtain⟨d1,w1,e1,l1⟩:=g5 p q u hpq hp;obtain⟨d2,w2,e2,l2⟩:=low u d1 w1 e1;exact⟨d2,w2,e2,by omega⟩
 ·obtain⟨d1,w1,e1,l1⟩:=K.start s' hs'
  obtain⟨d2,w2,e2,l2⟩:=low s' d1 w1 e1;exact⟨d2,w2,e2,by omega⟩
def Bar (L:bB ν)(q:List Nat):Prop:=q≠ []/\(∃a,Ch L a q a)/\bQ L q<0/\(dI L q).Nodup
theorem Ch.pas_drop {L:bB ν}:∀{ks:List Nat} {a b:ν} (i:Nat),Ch L a ks b->dI L (ks.drop i)=(dI L ks).drop i
 | [],_,_,i,_=>by simp[dI]
 | k::r,a,b,0,_=>rfl
 | k::r,a,b,i+1,h=>by
  have:=h;obtain⟨c,m,e,h'⟩:=this;rw[h.pas_cons,List.drop_succ_cons,List.drop_succ_cons,h'.pas_drop i]
theorem Kept.round {L:bB ν}{S:List ν}{b:bR ν}(K:Kept L S b){k:Nat}{a c:ν}{m d:Int}{w:List Nat}(e:L[k]? =some (a,c,m))(ha:b a=some (d,w))(hb:dE b c (d+m)=true)(hn:c∈dI L (w++ [k])) :
  Bar L ((w++ [k]).drop ((dI L (w++ [k])).idxOf c)):=by
 obtain⟨s,hs,h1,h2,h3,h4,h5⟩:=K.walk a d w ha
 have hch:Ch L s (w++ [k]) c:=h1.snoc e
 have hcost:bQ L (w++ [k])=d+m:=by rw[gH,h2,bQ,bQ,most,e];simp
 obtain⟨c1,c2,c3⟩:=hch.cut hn
 generalize hi:(dI L (w++ [k])).idxOf c=i at c1 c2 c3
 refine⟨λz=> ?_,⟨c,c2⟩,?_,?_⟩
 ·have:=congrArg List.length z
  rw[List.length_drop]at this
  simp at this c3
  omega
 ·have hsum:bQ L ((w++ [k]).take i)+bQ L ((w++ [k]).drop i)=d+m:=by rw[<-gH,List.take_append_drop,hcost]
  have hiw:i<=w.length:=by simp at c3;omega
  have ht:(w++ [k]).take i=w.take i:=by rw[List.take_append_of_le_length hiw]
  rw[ht]at c1 hsum;obtain⟨d1,w1,e1,l1⟩:=h5 (w.take i) (w.drop i) c (List.take_append_drop i w).symm c1;unfold dE at hb;rw[e1]at hb
  have:=of_decide_eq_true hb;simp only at this;omega
 ·rw[hch.pas_drop,m4,m3 e]
  refine(List.drop_sublist _ _).nodup (List.nodup_append.mpr ⟨h4,by simp,λx hx y hy=> ?_⟩)
  rw[List.mem_singleton.mp hy];exact λz=>h3 (by have z:x=a:=z;rw[<-z];exact hx)
def size (L:bB ν):Nat:=(L.map λx=>x.2.2.natAbs).sum
theorem ia {f:Nat->Nat}:∀{ks rs:List Nat},ks.Nodup->(∀k∈ks,k∈rs)->(ks.map f).sum<=(rs.map f).sum
 | [],rs,_,_=>by simp
 | k::ks,rs,hn,hs=>by
  have hk:k∈rs:=hs k List.mem_cons_self;rw[List.nodup_cons]at hn
  have hp:=List.perm_cons_erase hk
  have e:(rs.map f).sum=f k+((rs.erase k).map f).sum:=by
   have:=(hp.map f).sum_nat
   rwa [List.map_cons,List.sum_cons]at this
  rw[e,List.map_cons,List.sum_cons]
  have:=ia (f:=f) hn.2 (rs:=rs.erase k) λj hj=>by
   have h1:=hs j (List.mem_cons_of_mem _ hj);exact(List.mem_erase_of_ne (λ(z:j=k)=>hn.1 (z▸hj))).mpr h1
  omega
theorem pK (L:bB ν):size L=((List.range L.length).map λk=>(most L k).natAbs).sum:=by
 unfold size
 congr 1
 apply List.ext_getElem
 ·simp
 ·intro i h1 h2
  simp only[List.getElem_map,List.getElem_range];unfold most;rw[List.getElem?_eq_getElem (by simpa using h1)]
theorem ri (L:bB ν):∀(ks:List Nat),(bQ L ks).natAbs<=(ks.map λk=>(most L k).natAbs).sum
 | [] =>by simp[bQ]
 | k::r=>by
  have:=ri L r;rw[bQ,List.map_cons,List.sum_cons];omega
theorem Ch.nodup {L:bB ν}:∀{ks:List Nat} {a b:ν},Ch L a ks b->(dI L ks).Nodup->ks.Nodup
 | [],_,_,_,_=>List.nodup_nil
 | k::r,a,b,h,hn=>by
  have h0:=h;rw[h.pas_cons,List.nodup_cons]at hn;obtain⟨c,m,e,h⟩:=h;rw[List.nodup_cons];refine⟨λhk=>hn.1 ?_,h.nodup hn.2⟩
  unfold dI src;exact List.mem_filterMap.mpr ⟨k,hk,by rw[e];rfl⟩
theorem Ch.small {L:bB ν}{ks:List Nat}{a b:ν}(h:Ch L a ks b)(hn:(dI L ks).Nodup):(bQ L ks).natAbs<=size L:=by
 rw[pK];exact Nat.le_trans (ri L ks) (ia (h.nodup hn) λk hk=>List.mem_range.mpr (h.lt k hk))
def val (M:Nat)(b:bR ν)(v:ν):Nat:=match b v with
 | none=>2*M+1
 | some x=>(x.1+M).toNat
def left (M:Nat)(b:bR ν)(L:bB ν):Nat:=(L.map λx=>val M b x.2.1).sum
theorem qJ {M:Nat}{b b':bR ν}:∀{L:bB ν},(∀x∈L,val M b' x.2.1<=val M b x.2.1)->left M b' L<=left M b L
 | [],_=>by simp[left]
 | x::L,h=>by
  have h1:=h x List.mem_cons_self
  have h2:=qJ (L:=L) λy hy=>h y (List.mem_cons_of_mem _ hy)
  unfold left at h2 ⊢;rw[List.map_cons,List.sum_cons,List.map_cons,List.sum_cons];omega
theorem qI {M:Nat}{b b':bR ν}{x:ν×ν×Int}:∀{L:bB ν},x∈L->(∀x∈L,val M b' x.2.1<=val M b x.2.1)->val M b' x.2.1<val M b x.2.1->left M b' L<left M b L
 | [],hx,_,_=>by simp at hx
 | y::L,hx,h,hl=>by
  have h1:=h y List.mem_cons_self
  have h2:=qJ (L:=L) λy hy=>h y (List.mem_cons_of_mem _ hy)
  unfold left at h2 ⊢;rw[List.map_cons,List.sum_cons,List.map_cons,List.sum_cons];rcases List.mem_cons.mp hx with rfl | hx
  ·omega
  ·have h3:=qI (L:=L) hx (λy hy=>h y (List.mem_cons_of_mem _ hy)) hl
   unfold left at h3;omega
theorem uw {L:bB ν}{S:List ν}{b:bR ν}(K:Kept L S b){k:Nat}{a c:ν}{m d:Int}{w:List Nat}(e:L[k]? =some (a,c,m))(ha:b a=some (d,w))(hb:dE b c (d+m)=true)(hn:c∉dI L (w++ [k])) :
  left (size L) (put b c (d+m,w++ [k])) L<left (size L) b L:=by
 have K':=K.put e ha hb hn;obtain⟨s,hs,h1,h2,h3,h4,h5⟩:=K'.walk c (d+m) (w++ [k]) dy
 have sm:=h1.small h4;rw[h2]at sm
 have lt:val (size L) (put b c (d+m,w++ [k])) c<val (size L) b c:=by
  unfold val dE at*;rw[dy]
  cases z:b c with
  | none=>simp only;omega
  | some y=>
   rw[z]at hb
   have hb:=of_decide_eq_true hb;simp only;omega
 refine qI (x:=(a,c,m)) (List.mem_of_getElem? e) (λy _=> ?_) lt
 by_cases z:y.2.1=c
 ·rw[z];exact Nat.le_of_lt lt
 ·unfold val;rw[iq z];exact Nat.le_refl _
def vB (b:bR ν)(x:ν×ν×Int):Prop:=∀d w,b x.1=some (d,w)->∃d' w',b x.2.1=some (d',w')/\d'<=d+x.2.2
theorem tj {b:bR ν}{x:ν×ν×Int}(h:∀d w,b x.1=some (d,w)->dE b x.2.1 (d+x.2.2)=false):vB b x:=λd w e=>by
 have:=h d w e;unfold dE at this
 cases z:b x.2.1 with
 | none=>rw[z]at this;cases this
 | some y=>
  rw[z]at this
  have:=of_decide_eq_false this;exact⟨y.1,y.2,rfl,by omega⟩
theorem gq {L:bB ν}{S:List ν}:∀(r:bB ν) (k:Nat) (b:bR ν) (mv:Bool),L.drop k=r->Kept L S b->match gd L k r b mv with
  | .inr q=>Bar L q
  | .inl (b',mv')=>Kept L S b'/\(mv'=false->mv=false/\b'=b/\∀x∈r,vB b x)/\left (size L) b' L<=left (size L) b L/\(mv'=true->mv=true\/left (size L) b' L<left (size L) b L)
 | [],k,b,mv,_,K=>⟨K,λh=>⟨h,rfl,λx hx=>by simp at hx⟩,Nat.le_refl _,λh=> .inl h⟩
 | x::r,k,b,mv,hr,K=>by
  have e:L[k]? =some x:=by
   have:=congrArg (·[0]?) hr
   simpa using this
  have hr':L.drop (k+1)=r:=by
   have:=congrArg (List.drop 1) hr
   simpa [List.drop_drop,Nat.add_comm]using this
  rw[gd];obtain⟨a,c,m⟩:=x;unfold fO
  cases z:b a with
  | none=>
   simp only[z]
   have ih:=gq r (k+1) b mv hr' K
   revert ih
   generalize gd L (k+1) r b mv=R
   cases R with
   | inr q=>exact id
   | inl p=>
    obtain⟨b',mv'⟩:=p
    rintro ⟨i1,i2,i3,i4⟩
    refine⟨i1,λh=> ?_,i3,i4⟩
    obtain⟨j1,j2,j3⟩:=i2 h;refine⟨j1,j2,λx hx=> ?_⟩
    rcases List.mem_cons.mp hx with rfl | hx
    ·intro d w q;rw[z]at q;cases q
    ·exact j3 x hx
  | some y=>
   obtain⟨d,w⟩:=y;simp only[z]
   by_cases hb:dE b c (d+m)=true
   ·rw[if_pos hb]
    by_cases hn:c∈dI L (w++ [k])
    ·rw[if_pos hn]
     exact K.round e z hb hn
    ·rw[if_neg hn]
     have K':=K.put e z hb hn
     have lt:=uw K e z hb hn
     have ih:=gq r (k+1) (put b c (d+m,w++ [k])) true hr' K'
     revert ih
     simp only
     generalize gd L (k+1) r (put b c (d+m,w++ [k])) true=R
     cases R with
     | inr q=>exact id
     | inl p=>
      obtain⟨b',mv'⟩:=p
      rintro ⟨i1,i2,i3,i4⟩
      refine⟨i1,λh=> ?_,by omega,λ_=> .inr (by omega)⟩
      obtain⟨j1,_⟩:=i2 h;cases j1
   ·rw[if_neg hb]
    have ih:=gq r (k+1) b mv hr' K
    revert ih
    simp only
    generalize gd L (k+1) r b mv=R
    cases R with
    | inr q=>exact id
    | inl p=>
     obtain⟨b',mv'⟩:=p
     rintro ⟨i1,i2,i3,i4⟩
     refine⟨i1,λh=> ?_,i3,i4⟩
     obtain⟨j1,j2,j3⟩:=i2 h;refine⟨j1,j2,λx hx=> ?_⟩
     rcases List.mem_cons.mp hx with rfl | hx
     ·refine tj λd' w' q=> ?_
      simp only at q;rw[z]at q;cases q
      simpa using hb
     ·exact j3 x hx
structure Settled (L:bB ν)(S:List ν)(b:bR ν):Prop where
 walk:∀v d w,b v=some (d,w)->∃s∈S,Ch L s w v/\bQ L w=d/\v∉dI L w/\(dI L w).Nodup
 least:∀s∈S,∀v t,Wk L s v t->∃d w,b v=some (d,w)/\d<=t
theorem pL {L:bB ν}{S:List ν}{b:bR ν}(K:Kept L S b)(h:∀x∈L,vB b x):Settled L S b where
 walk:=λv d w e=>by
  obtain⟨s,h1,h2,h3,h4,h5,_⟩:=K.walk v d w e;exact⟨s,h1,h2,h3,h4,h5⟩
 least:=by
  have go:∀{u v:ν} {t:Int},Wk L u v t->∀d w,b u=some (d,w)->∃d' w',b v=some (d',w')/\d'<=d+t:=by
   intro u v t hw
   induction hw with
   | nil a=>exact λd w e=>⟨d,w,e,by omega⟩
   | step e _ ih=>
    intro d w q;obtain⟨d1,w1,e1,l1⟩:=h _ e d w q;obtain⟨d2,w2,e2,l2⟩:=ih d1 w1 e1;exact⟨d2,w2,e2,by simp only at l1;omega⟩
  intro s hs v t hw;obtain⟨d,w,e,l⟩:=K.start s hs;obtain⟨d2,w2,e2,l2⟩:=go hw d w e;exact⟨d2,w2,e2,by omega⟩
theorem lU {L:bB ν}{S:List ν}:∀(n:Nat) (b:bR ν),Kept L S b->left (size L) b L<n->∃r,settle L n b=some r/\match r with
  | .inr q=>Bar L q
  | .inl b'=>Settled L S b'
 | 0,b,K,h=>by omega
 | n+1,b,K,h=>by
  have s:=gq (S:=S) L 0 b false rfl K;rw[settle]
  revert s
  generalize gd L 0 L b false=R
  cases R with
  | inr q=>exact λs=>⟨_,rfl,s⟩
  | inl p=>
   obtain⟨b',mv'⟩:=p
   rintro ⟨i1,i2,i3,i4⟩
   cases mv' with
   | false=>
    obtain⟨_,j2,j3⟩:=i2 rfl;subst j2
    exact⟨_,rfl,pL i1 j3⟩
   | true=>
    rcases i4 rfl with z | z
    ·cases z
    ·exact lU n b' i1 (by omega)
def start (S:List ν):bR ν:=λv=>if v∈S then some (0,[])else none
theorem lf (L:bB ν)(S:List ν):Kept L S (start S) where
 walk:=λv d w e=>by
  unfold start at e
  split at e
  ·rename_i h
   cases e;refine⟨v,h,rfl,rfl,by simp[dI],by simp[dI],λp q u hpq hp=> ?_⟩
   obtain⟨rfl,rfl⟩:=List.append_eq_nil_iff.mp hpq.symm;cases hp;exact⟨0,[],by unfold start;rw[if_pos h],by simp[bQ]⟩
  ·cases e
 start:=λs hs=>⟨0,[],by unfold start;rw[if_pos hs],Int.le_refl _⟩
theorem uz (L:bB ν)(S:List ν):left (size L) (start S) L<=L.length*(2*size L+1):=by
 unfold left
 have:∀M:bB ν,(M.map λx=>val (size L) (start S) x.2.1).sum<=M.length*(2*size L+1):=by
  intro M
  induction M with
  | nil=>simp
  | cons x M ih=>
   rw[List.map_cons,List.sum_cons,List.length_cons,Nat.succ_mul]
   have:val (size L) (start S) x.2.1<=2*size L+1:=by
    unfold val start;split
    ·exact Nat.le_refl _
    ·rename_i h
     split at h
     ·cases h;simp;omega
     ·cases h
   omega
 exact this L
theorem pM (L:bB ν)(S:List ν){n:Nat}(h:L.length*(2*size L+1)<n):∃r,settle L n (start S)=some r/\match r with
  | .inr q=>Bar L q
  | .inl b'=>Settled L S b':=lU n (start S) (lf L S) (Nat.lt_of_le_of_lt (uz L S) h)
theorem Bar.neg {L:bB ν}{q:List Nat}(h:Bar L q):¬ gI L:=λn=>by
 obtain⟨_,⟨a,ha⟩,hc,_⟩:=h
 have:=n a _ ha.wk;omega
theorem Settled.holds {L:bB ν}{S:List ν}{b:bR ν}(h:Settled L S b)(hS:∀x∈L,x.1∈S/\x.2.1∈S){t:ν->Int}(ht:∀v∈S,∃w,b v=some (t v,w)):Holds L t:=λa c m hx=>by
 obtain⟨ha,hc⟩:=hS _ hx;obtain⟨w,e⟩:=ht a ha;obtain⟨s,hs,h1,h2,_⟩:=h.walk a _ _ e;obtain⟨d,w',e',l⟩:=h.least s hs c _ (h1.wk.app (.one hx));obtain⟨w2,e2⟩:=ht c hc;rw[e2]at e';cases e';omega
abbrev ql (ν:Type):=ν->ν->Option Int
def BM (f:ql ν)(a b:ν)(x:Int):ql ν:=λu v=>if u=a/\v=b then some x else f u v
def BR (f:ql ν)(a b:ν)(x:Int):ql ν:=match f a b with
 | none=>BM f a b x
 | some y=>if x<y then BM f a b x else f
def BL (mid one other:ν)(f:ql ν):ql ν:=match f one mid,f mid other with
 | some x,some y=>BR f one other (x+y)
 | _,_=>f
def tab0 (P:List ν):ql ν:=λu v=>if u∈P/\u=v then some 0 else none
def tab1 (P:List ν)(L:bB ν):ql ν:=L.foldl (λf x=>BR f x.1 x.2.1 x.2.2) (tab0 P)
def xp (mid one:ν)(P:List ν)(f:ql ν):ql ν:=P.foldl (λf other=>BL mid one other f) f
def BN (mid:ν)(Q P:List ν)(f:ql ν):ql ν:=Q.foldl (λf one=>xp mid one P f) f
def BQ (M P:List ν)(f:ql ν):ql ν:=M.foldl (λf mid=>BN mid P P f) f
def table (P:List ν)(L:bB ν):ql ν:=BQ P P (tab1 P L)
end Gr
namespace G
open PySem Tr Gr
structure N2 where
 c:Int
 k:Int
deriving DecidableEq
theorem N2.ext':∀{u v:N2},u.c=v.c->u.k=v.k->u=v
 | ⟨_,_⟩,⟨_,_⟩,rfl,rfl=>rfl
def en (v:N2):T:=.tup [.int v.c,.int v.k]
def eB (x:N2×N2×Int):T:=.tup [en x.1,en x.2.1,.int x.2.2]
def eN (ks:List Nat):List T:=ks.map λk=> .int (k:Nat)
def eW (x:Int×List Nat):T:=.tup [.int x.1,.lst (eN x.2)]
def ky (v:N2):List L2.Key:=[.inl v.c,.inl v.k]
theorem cm (v:N2):keyOf (en v)=some (ky v):=rfl
theorem nu {u v:N2}(h:some (ky u)=some (ky v)):u=v:=by
 injection h with h
 injection h with h1 h2
 injection h2 with h2 _
 injection h1 with h1
 injection h2 with h2
 exact N2.ext' h1 h2
theorem lh {u v:N2}(h:en u=en v):u=v:=nu (by rw[<-cm u,<-cm v,h])
theorem nL (u v:N2):aO (en u) (en v)=decide (u=v):=by
 unfold en aO beqTs aO beqTs beqTs
 by_cases h:u=v
 ·subst h;simp[aO]
 ·have:¬ (u.c=v.c/\u.k=v.k):=λz=>h (N2.ext' z.1 z.2)
  simp[h,aO];exact λz=>λy=>this ⟨z,y⟩
theorem nE (g:N2->T)(v:N2):∀(ns:List N2),lp (ns.map en) (ns.map g) (ky v)=if v∈ns then some (g v)else none
 | [] =>rfl
 | u::ns=>by
  rw[List.map_cons,List.map_cons,lp,cm]
  by_cases h:u=v
  ·subst h;rw[if_pos rfl,if_pos List.mem_cons_self]
  ·rw[if_neg (λz=>h (nu z)),nE g v ns]
   have:(v∈u::ns)↔v∈ns:=by rw[List.mem_cons];exact⟨λz=>z.elim (λy=>absurd y.symm h) id,.inr⟩
   simp only[this]
theorem ja (x:T)(v:N2)(g:N2->T):∀(ns:List N2),v∉ns->ga (en v) x (ns.map en) (ns.map g)=(ns.map en++ [en v],ns.map g++ [x])
 | [],_=>rfl
 | u::ns,h=>by
  rw[List.mem_cons,not_or]at h;rw[List.map_cons,List.map_cons,ga,cm,cm,if_neg (λz=>h.1 (nu z).symm),ja x v g ns h.2]
  rfl
theorem rf (x:T)(v:N2)(g:N2->T):∀(ns:List N2),ns.Nodup->v∈ns->ga (en v) x (ns.map en) (ns.map g)=(ns.map en,ns.map λu=>if u=v then x else g u)
 | [],_,h=>by simp at h
 | u::ns,hn,h=>by
  rw[List.nodup_cons]at hn;rw[List.map_cons,List.map_cons,List.map_cons,ga,cm,cm]
  by_cases z:u=v
  ·subst z
   rw[if_pos rfl,if_pos rfl]
   congr 2
   exact List.map_congr_left λw hw=>by rw[if_neg (λ(y:w=u)=>hn.1 (y▸hw))]
  ·rw[if_neg (λy=>z (nu y)),if_neg z]
   have h':v∈ns:=(List.mem_cons.mp h).elim (λy=>absurd y.symm z) id
   rw[rf x v g ns hn.2 h']
theorem gY {α:Type}[DecidableEq α]:∀{l m:List α},l.Nodup->(∀x∈l,x∈m)->l.length<=m.length
 | [],_,_,_=>Nat.zero_le _
 | x::l,m,hn,h=>by
  rw[List.nodup_cons]at hn
  have hx:=h x List.mem_cons_self
  have:=gY (m:=m.erase x) hn.2 λy hy=>(List.mem_erase_of_ne (λ(z:y=x)=>hn.1 (z▸hy))).mpr (h y (List.mem_cons_of_mem _ hy))
  rw[List.length_erase_of_mem hx]at this
  have:0<m.length:=List.length_pos_of_mem hx;rw[List.length_cons];omega
def oW (o:Option (Int×List Nat)):T:=match o with
 | some x=>eW x
 | none=> .non
structure DR (P ns:List N2)(b:bR N2):Prop where
 nd:ns.Nodup
 mem:∀v,v∈ns↔(b v).isSome=true
 sub:∀v∈ns,v∈P
def dV (ns:List N2)(b:bR N2):List T:=ns.map λv=>oW (b v)
theorem DR.get {P ns:List N2}{b:bR N2}(D:DR P ns b)(v:N2):lp (ns.map en) (dV ns b) (ky v)=(b v).map eW:=by
 unfold dV;rw[nE (λv=>oW (b v))]
 have:=D.mem v
 cases q:b v with
 | none=>rw[q]at this;rw[if_neg (λz=>by simpa using this.mp z)];rfl
 | some x=>rw[q]at this;rw[if_pos (this.mpr rfl)];rfl
theorem DR.put {P ns:List N2}{b:bR N2}(D:DR P ns b){v:N2}(hv:v∈P)(y:Int×List Nat):∃ns',DR P ns' (Gr.put b v y)/\ga (en v) (eW y) (ns.map en) (dV ns b)=(ns'.map en,dV ns' (Gr.put b v y)):=by
 by_cases h:v∈ns
 ·refine⟨ns,⟨D.nd,λu=> ?_,D.sub⟩,?_⟩
  ·by_cases z:u=v
   ·subst z;rw[dy];exact⟨λ_=>rfl,λ_=>h⟩
   ·rw[iq z];exact D.mem u
  ·unfold dV
   rw[rf _ _ _ _ D.nd h]
   congr 1
   refine List.map_congr_left λu _=> ?_
   by_cases z:u=v
   ·subst z;rw[if_pos rfl,dy];rfl
   ·rw[if_neg z,iq z]
 ·refine⟨ns++ [v],⟨?_,λu=> ?_,λu hu=> ?_⟩,?_⟩
  ·exact List.nodup_append.mpr ⟨D.nd,by simp,λx hx y hy=>by simp at hy;subst hy;exact λz=>h (z▸hx)⟩
  ·rw[List.mem_append,List.mem_singleton]
   by_cases z:u=v
   ·subst z;rw[dy];exact⟨λ_=>rfl,λ_=> .inr rfl⟩
   ·rw[iq z,<-D.mem u];exact⟨λw=>w.elim id λy=>absurd y z,.inl⟩
  ·rcases List.mem_append.mp hu with w | w
   ·exact D.sub u w
   ·rw[List.mem_singleton.mp w];exact hv
  ·unfold dV
   rw[ja _ _ _ _ h,List.map_append,List.map_append]
   congr 1
   congr 1
   ·refine List.map_congr_left λu hu=> ?_
    rw[iq (λ(z:u=v)=>h (z▸hu))]
   ·simp[dy,oW]
theorem ve {P ns:List N2}{b:bR N2}(D:DR P ns b)(x:N2×N2×Int)(d:Int)(w:List Nat) :
  cS [.dct (ns.map en) (dV ns b),eB x,eW (d,w)] = .ok (.bl (dE b x.2.1 (d+x.2.2))):=by
 refine bw rfl ?_
 show et [.va (.dct (ns.map en) (dV ns b)),.va (eB x),.va (eW (d,w)),.em] =_
 unfold et
 have g:oD gf (vr 0) (o2 aN (vr 1) (cn (.int 1))) [.va (.dct (ns.map en) (dV ns b)),.va (eB x),.va (eW (d,w)),.em] = .ok (oW (b x.2.1)):=by
  refine Bx (ks:=ns.map en) (vs:=dV ns b) (u:=en x.2.1) rfl rfl ?_
  unfold gf;rw[cm];simp only[D.get];cases b x.2.1 <;> rfl
 rw[ax (bz (t:=oW (b x.2.1)) (Z':=[.va (.dct (ns.map en) (dV ns b)),.va (eB x),.va (eW (d,w)),.va (oW (b x.2.1))]) g rfl)];refine cF ?_
 unfold dE
 cases q:b x.2.1 with
 | none=>exact zL (aD (t:=.non) (u:=.non) rfl rfl rfl)
 | some y=>exact(zM (aD (t:=eW y) (u:=.non) rfl rfl rfl)).trans (aD (t:=.int (d+x.2.2)) (u:=.int y.1) rfl rfl rfl)
abbrev vF:En->Rs Fl:=(ar (bN (ln 2 (oD gf (vr 2) (o2 aN (vr 5) (cn (.int 0))))) (gN 6)) (ar (dL (jI (tb (o2 eV (vr 6) (cn .non))) (cD (zE 2 (tb (cl cS (ac (vr 2) (ac (vr 5) (ac (vr 6) ah)))))))) xY sN) (ar (bN (o2 aJ (o2 aN (vr 6) (cn (.int 1))) (c7 (ac (vr 4) ah))) (gN 7)) (ar (bN (eU (iS (vr 7)) [none,some 0] (gN 0) bT (o2 aN (o2 aN (vr 1) (vr 0)) (cn (.int 0)))) (gN 8)) (ar (dL (tb (o2 uS (o2 aN (vr 5) (cn (.int 1))) (vr 8))) (aF (bq (ac (cn .non) (ac (sl (vr 7) (pS (oL fD (vr 8) (o2 aN (vr 5) (cn (.int 1))))) pN) ah)))) sN) (ar (rM 2 (o2 aN (vr 5) (cn (.int 1))) (bq (ac (o2 aJ (o2 aN (vr 6) (cn (.int 0))) (o2 aN (vr 5) (cn (.int 2)))) (ac (vr 7) ah)))) (bN (cn (.bl true)) (gN 3))))))))
abbrev Cc:T->En->Rs En:=gT 2 (nA (gN 4) (nA (gN 5) uU))
def eL (L:bB N2):T:=.lst (L.map eB)
def tp (L:bB N2)(t:T):T:=match t with
 | .int j=>match L[j.toNat]? with
  | some x=>en x.1
  | none=> .non
 | _=> .non
theorem qD {L:bB N2}:∀{ks:List Nat} {a b:N2},Ch L a ks b->(eN ks).map (tp L)=(dI L ks).map en
 | [],_,_,_=>rfl
 | k::r,a,b,h=>by
  rw[h.pas_cons];obtain⟨c,m,e,h⟩:=h
  show tp L (.int k)::(eN r).map (tp L)=en a::(dI L r).map en
  rw[qD h]
  congr 1
  unfold tp;simp only[Int.toNat_natCast,e]
theorem vp (v:N2):∀(l:List N2),io (en v) (l.map en)=decide (v∈l)
 | [] =>rfl
 | u::l=>by
  have ih:=vp v l;unfold io at ih ⊢;rw[List.map_cons,List.any_cons,ih,nL]
  by_cases h:u=v
  ·subst h;simp
  ·have h':¬ v=u:=λz=>h z.symm
   simp[h,h']
theorem o9 (v:N2):∀(l:List N2) (n:Nat),v∈l->hU (en v) (l.map en) n=some (n+l.idxOf v)
 | [],n,h=>by simp at h
 | u::l,n,h=>by
  rw[List.map_cons,hU,nL,List.idxOf_cons]
  by_cases z:u=v
  ·subst z;simp
  ·have h':v∈l:=(List.mem_cons.mp h).elim (λy=>absurd y.symm z) id
   have zb:(u == v)=false:=by rw[beq_eq_false_iff_ne];exact z
   rw[zb,decide_eq_false z,if_neg Bool.false_ne_true,o9 v l (n+1) h'];simp only[cond_false]
   congr 1
   omega
theorem yc (v:N2):(en v).nd=true:=rfl
theorem nr {α:Type}(f:α->T)(h:∀a,(f a).nd=true):∀l:List α,nds (l.map f)=true
 | [] =>rfl
 | a::l=>by rw[List.map_cons,nds,h a,nr f h l];rfl
theorem nF (v:N2):(en v).dep<=60:=by show(T.tup [.int v.c,.int v.k]).dep<=60;simp[T.dep,deps]
theorem BH (v:N2)(l:List N2):uS (en v) (.lst (l.map en))= .ok (.bl (decide (v∈l))):=by
 show(if (_\/_)/\_/\(T.lst (l.map en)).nd=true then _ else _)=_
 rw[if_pos ⟨.inl (nF v),rfl,nr en yc l⟩,vp]
theorem uR (v:N2)(l:List N2)(h:v∈l):fD (.lst (l.map en)) (en v)= .ok (.int ((l.idxOf v:Nat):Int)):=by
 unfold fD;simp only;rw[if_pos ⟨.inl (nF v),rfl,nr en yc l⟩,o9 v l 0 h,Nat.zero_add]
theorem Ac (p q:List Nat):eN (p++q)=eN p++eN q:=by unfold eN;rw[List.map_append]
theorem um (D:Bool):∀ks:List Nat,nks D (eN ks)=true
 | [] =>rfl
 | k::r=>by show nks D (.int k::eN r)=true;unfold nks;rw[um D r];rfl
theorem Ch.len {L:bB N2}{ks:List Nat}{a b:N2}(h:Ch L a ks b)(hn:(dI L ks).Nodup):ks.length<=L.length:=by
 have:=gY (h.nodup hn) (m:=List.range L.length) λk hk=>List.mem_range.mpr (h.lt k hk)
 rwa [List.length_range]at this
def ym (L:bB N2)(P ns:List N2)(b:bR N2)(k:Nat)(x:N2×N2×Int)(st:T)(mv:Bool)(s6 s7 s8:Sl):Sum (Option (bR N2)) (List Nat)->Prop
 | .inl none=> ∃s6' s7' s8',vF [.va (eL L),.va st,.ow (.dct (ns.map en) (dV ns b)),.va (.bl mv),.va (.int k),.va (eB x),s6,s7,s8] = .ok (.ct [.va (eL L),.va st,.ow (.dct (ns.map en) (dV ns b)),.va (.bl mv),.va (.int k),.va (eB x),s6',s7',s8'])
 | .inl (some b')=> ∃ns' s6' s7' s8',DR P ns' b'/\vF [.va (eL L),.va st,.ow (.dct (ns.map en) (dV ns b)),.va (.bl mv),.va (.int k),.va (eB x),s6,s7,s8] = .ok (.nx [.va (eL L),.va st,.ow (.dct (ns'.map en) (dV ns' b')),.va (.bl true),.va (.int k),.va (eB x),s6',s7',s8'])
 | .inr q=>vF [.va (eL L),.va st,.ow (.dct (ns.map en) (dV ns b)),.va (.bl mv),.va (.int k),.va (eB x),s6,s7,s8] = .ok (.rt (.tup [.non,.lst (eN q)]))
theorem v8 {L:bB N2}{S P ns:List N2}{b:bR N2}{k:Nat}{x:N2×N2×Int}(K:Kept L S b)(D:DR P ns b)(hL:L.length<=500)(hP:P.length<1000)(e:L[k]? =some x)(hx:x.2.1∈P)(st:T)(mv:Bool)(s6 s7 s8:Sl) :
  ym L P ns b k x st mv s6 s7 s8 (fO L b k x):=by
 obtain⟨a,c,m⟩:=x;unfold ym
 generalize hks:ns.map en=ks
 generalize hvs:dV ns b=vs
 have get:∀s7 s8,ln 2 (oD gf (vr 2) (o2 aN (vr 5) (cn (.int 0)))) [.va (eL L),.va st,.ow (.dct ks vs),.va (.bl mv),.va (.int k),.va (eB (a,c,m)),s6,s7,s8] = .ok (oW (b a)):=λs7 s8=>by
  refine Bz (o:=.dct ks vs) rfl (Bx (ks:=ks) (vs:=vs) (u:=en a) rfl rfl ?_) ?_
  ·unfold gf
   rw[cm,<-hks,<-hvs];simp only[D.get];cases b a <;> rfl
  ·cases b a with
   | none=>rfl
   | some y=>show nks true [.int y.1,.lst (eN y.2)] =true;simp[nks,T.nk,um]
 have s1:∀G,ar (bN (ln 2 (oD gf (vr 2) (o2 aN (vr 5) (cn (.int 0))))) (gN 6)) G [.va (eL L),.va st,.ow (.dct ks vs),.va (.bl mv),.va (.int k),.va (eB (a,c,m)),s6,s7,s8] =G [.va (eL L),.va st,.ow (.dct ks vs),.va (.bl mv),.va (.int k),.va (eB (a,c,m)),.va (oW (b a)),s7,s8]:=λG=>
  ax (bz (t:=oW (b a)) (get s7 s8) rfl)
 cases qa:b a with
 | none=>
  rw[show fO L b k (a,c,m)= .inl none from by unfold fO;simp only[qa]]
  simp only;refine⟨.va .non,s7,s8,?_⟩
  unfold vF;rw[s1,qa]
  exact uI (fQ (F:=xY) (ye (cA (aD (t:=.non) (u:=.non) rfl rfl rfl))))
 | some y=>
  obtain⟨d,w⟩:=y
  have bt:∀s7 s8,zE 2 (tb (cl cS (ac (vr 2) (ac (vr 5) (ac (vr 6) ah))))) [.va (eL L),.va st,.ow (.dct ks vs),.va (.bl mv),.va (.int k),.va (eB (a,c,m)),.va (eW (d,w)),s7,s8] = .ok (dE b c (d+m)):=λs7 s8=>by
   refine By (cA (aQ (ts:=[.dct ks vs,eB (a,c,m),eW (d,w)]) rfl ?_))
   rw[<-hks,<-hvs];exact ve D (a,c,m) d w
  have nn:tb (o2 eV (vr 6) (cn .non)) [.va (eL L),.va st,.ow (.dct ks vs),.va (.bl mv),.va (.int k),.va (eB (a,c,m)),.va (eW (d,w)),s7,s8] = .ok false:=cA (aD (t:=eW (d,w)) (u:=.non) rfl rfl rfl)
  have cond:=qP nn (ik (bt s7 s8))
  have s1':∀G,ar (bN (ln 2 (oD gf (vr 2) (o2 aN (vr 5) (cn (.int 0))))) (gN 6)) G [.va (eL L),.va st,.ow (.dct ks vs),.va (.bl mv),.va (.int k),.va (eB (a,c,m)),s6,s7,s8] =G [.va (eL L),.va st,.ow (.dct ks vs),.va (.bl mv),.va (.int k),.va (eB (a,c,m)),.va (eW (d,w)),s7,s8]:=λG=>by rw[s1 G,qa];rfl
  cases hb:dE b c (d+m)with
  | false=>
   rw[show fO L b k (a,c,m)= .inl none from by unfold fO;simp only[qa,hb];rfl]
   simp only;rw[hb]at cond;refine⟨.va (eW (d,w)),s7,s8,?_⟩
   unfold vF;rw[s1']
   exact uI (fQ (F:=xY) cond)
  | true=>
   rw[hb]at cond;obtain⟨s,hs,h1,h2,h3,h4,h5⟩:=K.walk a d w qa
   have hch:Ch L s (w++ [k]) c:=h1.snoc e
   have hwl:w.length<=500:=Nat.le_trans (Ch.len h1 h4) hL
   have s2:∀G,ar (dL (jI (tb (o2 eV (vr 6) (cn .non))) (cD (zE 2 (tb (cl cS (ac (vr 2) (ac (vr 5) (ac (vr 6) ah)))))))) xY sN) G [.va (eL L),.va st,.ow (.dct ks vs),.va (.bl mv),.va (.int k),.va (eB (a,c,m)),.va (eW (d,w)),s7,s8] =G [.va (eL L),.va st,.ow (.dct ks vs),.va (.bl mv),.va (.int k),.va (eB (a,c,m)),.va (eW (d,w)),s7,s8]:=λG=>
    ax (Z':=[.va (eL L),.va st,.ow (.dct ks vs),.va (.bl mv),.va (.int k),.va (eB (a,c,m)),.va (eW (d,w)),s7,s8]) ((dB (F:=xY) (G:=sN) cond).trans rfl)
   have wk:o2 aJ (o2 aN (vr 6) (cn (.int 1))) (c7 (ac (vr 4) ah)) [.va (eL L),.va st,.ow (.dct ks vs),.va (.bl mv),.va (.int k),.va (eB (a,c,m)),.va (eW (d,w)),s7,s8] = .ok (.lst (eN (w++ [k]))):=by
    refine aD (t:=.lst (eN w)) (u:=.lst (eN [k])) rfl (gC (ts:=[.int k]) rfl (az (k:=1) (by simp))) ?_
    show ij (eN w++eN [k])=_
    rw[<-Ac];unfold ij;rw[if_pos (az (k:=1000) (by unfold eN;rw[List.length_map,List.length_append];simp;omega))]
   have s3:∀G,ar (bN (o2 aJ (o2 aN (vr 6) (cn (.int 1))) (c7 (ac (vr 4) ah))) (gN 7)) G [.va (eL L),.va st,.ow (.dct ks vs),.va (.bl mv),.va (.int k),.va (eB (a,c,m)),.va (eW (d,w)),s7,s8] =G [.va (eL L),.va st,.ow (.dct ks vs),.va (.bl mv),.va (.int k),.va (eB (a,c,m)),.va (eW (d,w)),.va (.lst (eN (w++ [k]))),s8]:=λG=>ax (bz wk rfl)
   have ps:eU (iS (vr 7)) [none,some 0] (gN 0) bT (o2 aN (o2 aN (vr 1) (vr 0)) (cn (.int 0))) [.va (eL L),.va st,.ow (.dct ks vs),.va (.bl mv),.va (.int k),.va (eB (a,c,m)),.va (eW (d,w)),.va (.lst (eN (w++ [k]))),s8] = .ok (.lst ((dI L (w++ [k])).map en)):=by
    rw[<-qD hch];refine o5 (ts:=eN (w++ [k])) (i8 rfl) (az (k:=1000) (by unfold eN;rw[List.length_map,List.length_append];simp;omega)) (by simp) λt ht=> ?_
    unfold eN at ht;obtain⟨j,hj,rfl⟩:=List.mem_map.mp ht
    have hjl:=hch.lt j hj;refine aD (t:=eB L[j]) (u:=.int 0) (o6 (l:=L.map eB) (n:=j) rfl rfl (by rw[List.getElem?_map,List.getElem?_eq_getElem hjl];rfl)) rfl ?_
    unfold tp;simp only[Int.toNat_natCast,List.getElem?_eq_getElem hjl]
    rfl
   have s4:∀G,ar (bN (eU (iS (vr 7)) [none,some 0] (gN 0) bT (o2 aN (o2 aN (vr 1) (vr 0)) (cn (.int 0)))) (gN 8)) G [.va (eL L),.va st,.ow (.dct ks vs),.va (.bl mv),.va (.int k),.va (eB (a,c,m)),.va (eW (d,w)),.va (.lst (eN (w++ [k]))),s8] =G [.va (eL L),.va st,.ow (.dct ks vs),.va (.bl mv),.va (.int k),.va (eB (a,c,m)),.va (eW (d,w)),.va (.lst (eN (w++ [k]))),.va (.lst ((dI L (w++ [k])).map en))]:=λG=>ax (bz ps rfl)
   have inn:tb (o2 uS (o2 aN (vr 5) (cn (.int 1))) (vr 8)) [.va (eL L),.va st,.ow (.dct ks vs),.va (.bl mv),.va (.int k),.va (eB (a,c,m)),.va (eW (d,w)),.va (.lst (eN (w++ [k]))),.va (.lst ((dI L (w++ [k])).map en))] = .ok (decide (c∈dI L (w++ [k]))):=
    cA (aD (t:=en c) (u:=.lst ((dI L (w++ [k])).map en)) rfl rfl (BH c _))
   by_cases hn:c∈dI L (w++ [k])
   ·rw[show fO L b k (a,c,m)= .inr ((w++ [k]).drop ((dI L (w++ [k])).idxOf c))from by unfold fO;simp only[qa,hb,if_pos hn,if_true]]
    simp only;unfold vF;rw[s1',s2,s3,s4];rw[decide_eq_true hn]at inn;refine fI ((fQ inn).trans (cF ?_))
    have sle:sl (vr 7) (pS (oL fD (vr 8) (o2 aN (vr 5) (cn (.int 1))))) pN [.va (eL L),.va st,.ow (.dct ks vs),.va (.bl mv),.va (.int k),.va (eB (a,c,m)),.va (eW (d,w)),.va (.lst (eN (w++ [k]))),.va (.lst ((dI L (w++ [k])).map en))] = .ok (.lst (eN ((w++ [k]).drop ((dI L (w++ [k])).idxOf c)))):=by
     rw[uH (l:=eN (w++ [k])) (lo:=some (((dI L (w++ [k])).idxOf c:Nat):Int)) (hi:=none) rfl (uJ (k_oL (ks:=(dI L (w++ [k])).map en) (u:=en c) rfl rfl (uR c _ hn))) rfl,pz];unfold eN;rw[List.map_drop]
    exact(dA (ts:=[.non,.lst (eN ((w++ [k]).drop ((dI L (w++ [k])).idxOf c)))]) (ap rfl (ap sle rfl)) (az (k:=2) (by simp)))
   ·rw[show fO L b k (a,c,m)= .inl (some (Gr.put b c (d+m,w++ [k])))from by unfold fO;simp only[qa,hb,if_neg hn,if_true]]
    simp only;rw[decide_eq_false hn]at inn;obtain⟨ns',D',hd⟩:=D.put hx (d+m,w++ [k]);refine⟨ns',.va (eW (d,w)),.va (.lst (eN (w++ [k]))),.va (.lst ((dI L (w++ [k])).map en)),D',?_⟩
    unfold vF;rw[s1',s2,s3,s4];rw[ax (Z':=[.va (eL L),.va st,.ow (.dct ks vs),.va (.bl mv),.va (.int k),.va (eB (a,c,m)),.va (eW (d,w)),.va (.lst (eN (w++ [k]))),.va (.lst ((dI L (w++ [k])).map en))]) ((dB (G:=sN) inn).trans rfl)]
    have pt:rM 2 (o2 aN (vr 5) (cn (.int 1))) (bq (ac (o2 aJ (o2 aN (vr 6) (cn (.int 0))) (o2 aN (vr 5) (cn (.int 2)))) (ac (vr 7) ah))) [.va (eL L),.va st,.ow (.dct ks vs),.va (.bl mv),.va (.int k),.va (eB (a,c,m)),.va (eW (d,w)),.va (.lst (eN (w++ [k]))),.va (.lst ((dI L (w++ [k])).map en))]
      = .ok (.nx [.va (eL L),.va st,.ow (.dct (ns'.map en) (dV ns' (Gr.put b c (d+m,w++ [k])))),.va (.bl mv),.va (.int k),.va (eB (a,c,m)),.va (eW (d,w)),.va (.lst (eN (w++ [k]))),.va (.lst ((dI L (w++ [k])).map en))]):=by
     have ev:bq (ac (o2 aJ (o2 aN (vr 6) (cn (.int 0))) (o2 aN (vr 5) (cn (.int 2)))) (ac (vr 7) ah)) [.va (eL L),.va st,.ow (.dct ks vs),.va (.bl mv),.va (.int k),.va (eB (a,c,m)),.va (eW (d,w)),.va (.lst (eN (w++ [k]))),.va (.lst ((dI L (w++ [k])).map en))] = .ok (eW (d+m,w++ [k])):=
      dA (ts:=[.int (d+m),.lst (eN (w++ [k]))]) rfl (az (k:=2) (by simp))
     have ek:o2 aN (vr 5) (cn (.int 1)) [.va (eL L),.va st,.ow (.dct ks vs),.va (.bl mv),.va (.int k),.va (eB (a,c,m)),.va (eW (d,w)),.va (.lst (eN (w++ [k]))),.va (.lst ((dI L (w++ [k])).map en))] = .ok (en c):=rfl
     show(bq _ _ >>= λv=>o2 aN (vr 5) (cn (.int 1)) _ >>= λkk=>match keyOf kk with | some _=>if ks.length<1000 then Rs.ok (Fl.nx _)else .bad | none=> .bad)=_
     rw[ev,aC,ek,aC,cm]
     have hlen:ks.length<1000:=by rw[<-hks,List.length_map];exact Nat.lt_of_le_of_lt (gY D.nd D.sub) hP
     simp only[if_pos hlen]
     have hd1:ga (en c) (eW (d+m,w++ [k])) ks vs=(ns'.map en,dV ns' (Gr.put b c (d+m,w++ [k]))):=by rw[<-hks,<-hvs];exact hd
     rw[hd1]
     rfl
    rw[ax pt];exact bz (t:=.bl true) rfl rfl
def sK (L:bB N2)(st:T)(ns:List N2)(b:bR N2)(mv:Bool)(s4 s5 s6 s7 s8:Sl):En:=[.va (eL L),.va st,.ow (.dct (ns.map en) (dV ns b)),.va (.bl mv),s4,s5,s6,s7,s8]
def vA (L:bB N2)(P:List N2)(st:T)(X:Rs Fl):Sum (bR N2×Bool) (List Nat)->Prop
 | .inr q=>X= .ok (.rt (.tup [.non,.lst (eN q)]))
 | .inl (b',mv')=> ∃ns' s4 s5 s6 s7 s8,DR P ns' b'/\X= .ok (.nx (sK L st ns' b' mv' s4 s5 s6 s7 s8))
theorem mL {L:bB N2}{S P:List N2}(hL:L.length<=500)(hP:P.length<1000)(hx:∀x∈L,x.2.1∈P)(st:T):∀(r:bB N2) (k:Nat) (b:bR N2) (mv:Bool) (ns:List N2) (s4 s5 s6 s7 s8:Sl),L.drop k=r->Kept L S b->DR P ns b →
  vA L P st (aW Cc vF (bp k (r.map eB)) (sK L st ns b mv s4 s5 s6 s7 s8)) (gd L k r b mv)
 | [],k,b,mv,ns,s4,s5,s6,s7,s8,_,K,D=>⟨ns,s4,s5,s6,s7,s8,D,rfl⟩
 | x::r,k,b,mv,ns,s4,s5,s6,s7,s8,hr,K,D=>by
  have e:L[k]? =some x:=by
   have:=congrArg (·[0]?) hr
   simpa using this
  have hr':L.drop (k+1)=r:=by
   have:=congrArg (List.drop 1) hr
   simpa [List.drop_drop,Nat.add_comm]using this
  have tg:Cc (.tup [.int k,eB x]) (sK L st ns b mv s4 s5 s6 s7 s8)= .ok [.va (eL L),.va st,.ow (.dct (ns.map en) (dV ns b)),.va (.bl mv),.va (.int k),.va (eB x),s6,s7,s8]:=rfl
  have tn:=v8 K D hL hP e (hx x (List.mem_of_getElem? e)) st mv s6 s7 s8;rw[gd,List.map_cons,bp]
  cases q:fO L b k x with
  | inr w=>
   rw[q]at tn;simp only;unfold vA
   exact qQ tg tn
  | inl o=>
   rw[q]at tn
   cases o with
   | none=>
    obtain⟨s6',s7',s8',tn⟩:=tn;simp only;rw[xi tg tn]
    exact mL hL hP hx st r (k+1) b mv ns _ _ _ _ _ hr' K D
   | some b'=>
    obtain⟨ns',s6',s7',s8',D',tn⟩:=tn;simp only;rw[dO tg tn];refine mL (S:=S) hL hP hx st r (k+1) b' true ns' _ _ _ _ _ hr' ?_ D'
    -- what is kept stays so
    obtain⟨a,c,m⟩:=x;unfold fO at q
    cases qa:b a with
    | none=>simp only[qa]at q;cases q
    | some y=>
     obtain⟨d,w⟩:=y;simp only[qa]at q
     split at q
     ·rename_i hb
      split at q
      ·cases q
      ·rename_i hn
       cases q;exact K.put e qa hb hn
     ·cases q
abbrev wF:En->Rs Fl:=ar (bN (cn (.bl false)) (gN 3)) (fM (iE (ac (vr 0) ah)) Cc vF)
def SetP (L:bB N2)(P:List N2)(st:T)(X:Rs Fl):Sum (bR N2) (List Nat)->Prop
 | .inr q=>X= .ok (.rt (.tup [.non,.lst (eN q)]))
 | .inl b'=> ∃ns' s4 s5 s6 s7 s8,DR P ns' b'/\X= .ok (.nx (sK L st ns' b' false s4 s5 s6 s7 s8))
theorem ol {L:bB N2}{S P:List N2}(hL:L.length<=500)(hP:P.length<1000)(hx:∀x∈L,x.2.1∈P)(st:T):∀(n:Nat) (b:bR N2) (ns:List N2) (s4 s5 s6 s7 s8:Sl) (r:Sum (bR N2) (List Nat)),Kept L S b->DR P ns b->Gr.settle L n b=some r →
  SetP L P st (bi (tb (vr 3)) wF (n+1) (sK L st ns b true s4 s5 s6 s7 s8)) r
 | 0,_,_,_,_,_,_,_,_,_,_,h=>by cases h
 | n+1,b,ns,s4,s5,s6,s7,s8,r,K,D,h=>by
  have sw:=mL hL hP hx st L 0 b false ns s4 s5 s6 s7 s8 rfl K D
  have ok:=gq (S:=S) L 0 b false rfl K
  have body:∀X,aW Cc vF (bp 0 (L.map eB)) (sK L st ns b false s4 s5 s6 s7 s8)= .ok X->wF (sK L st ns b true s4 s5 s6 s7 s8)= .ok X:=λX hX=>by
   show ar _ _ _=_
   rw[ax (Z':=sK L st ns b false s4 s5 s6 s7 s8) (bz (t:=.bl false) rfl rfl)];exact fR (ts:=bp 0 (L.map eB)) (yg rfl) hX
  have tt:tb (vr 3) (sK L st ns b true s4 s5 s6 s7 s8)= .ok true:=rfl;rw[Gr.settle]at h
  revert sw ok h
  generalize gd L 0 L b false=R
  intro h sw ok
  cases R with
  | inr q=>
   simp only at h;cases h
   exact uE tt (body _ sw)
  | inl p=>
   obtain⟨b',mv'⟩:=p;obtain⟨ns',t4,t5,t6,t7,t8,D',sw⟩:=sw;obtain⟨K',_⟩:=ok
   cases mv' with
   | true=>
    simp only at h
    have ih:=ol hL hP hx st n b' ns' t4 t5 t6 t7 t8 r K' D' h;rw[o4 tt (body _ sw)]
    exact ih
   | false=>
    simp only at h;cases h;refine⟨ns',t4,t5,t6,t7,t8,D',?_⟩
    rw[o4 tt (body _ sw)];exact uF rfl
theorem fV {c:En->Rs Bool}{F:En->Rs Fl}{x:Fl}:∀{n m:Nat} {Z:En},n<=m->bi c F n Z= .ok x->bi c F m Z= .ok x
 | 0,_,_,_,h=>by cases h
 | n+1,0,_,hl,_=>absurd hl (by omega)
 | n+1,m+1,Z,hl,h=>by
  unfold bi at h ⊢
  cases q:c Z with
  | bad=>rw[q]at h;cases h
  | err _=>rw[q]at h;cases h
  | ok k=>
   rw[q]at h
   cases k with
   | false=>exact h
   | true=>
    simp only at h ⊢
    cases q2:F Z with
    | bad=>rw[q2]at h;cases h
    | err _=>rw[q2]at h;cases h
    | ok f=>
     rw[q2]at h
     cases f with
     | nx Z'=>exact fV (by omega) h
     | ct Z'=>exact fV (by omega) h
     | bk Z'=>exact h
     | rt t=>exact h
theorem tQ (w:T):∀S:List N2,As (S.map λv=> .tup [en v,w])=some (S.map λv=>(en v,w))
 | [] =>rfl
 | v::S=>by rw[List.map_cons,As,cm,tQ w S];rfl
theorem pk (w:T):∀(S ns:List N2) (g:N2->T),(ns++S).Nodup->(∀v∈S,g v=w)->fx (S.map λv=>(en v,w)) (ns.map en,ns.map g)=((ns++S).map en,(ns++S).map g)
 | [],ns,g,_,_=>by rw[List.append_nil];rfl
 | v::S,ns,g,hn,hg=>by
  have hv:v∉ns:=λz=>by
   rw[List.nodup_append]at hn;exact hn.2.2 v z v List.mem_cons_self rfl
  rw[List.map_cons,fx,ja _ _ _ _ hv]
  have e1:ns.map en++ [en v] =(ns++ [v]).map en:=by rw[List.map_append];rfl
  have e2:ns.map g++ [w] =(ns++ [v]).map g:=by rw[List.map_append,<-hg v List.mem_cons_self];rfl
  rw[e1,e2,pk w S (ns++ [v]) g (by rw[List.append_assoc];exact hn) λu hu=>hg u (List.mem_cons_of_mem _ hu),List.append_assoc]
  rfl
theorem xA (w:T)(S:List N2)(hn:S.Nodup)(hl:S.length<=1000):rh [.lst (S.map λv=> .tup [en v,w])] = .ok (.dct (S.map en) (S.map λ_=>w)):=by
 unfold rh;simp only[tQ];rw[if_pos (by rw[List.length_map];exact hl)]
 have:=pk w S [] (λ_=>w) (by simpa using hn) (λ_ _=>rfl)
 rw[List.nil_append]at this;rw[show(([]:List T),([]:List T))=(([]:List N2).map en,([]:List N2).map λ_=>w)from rfl,this]
def eS (S:List N2):T:=.lst (S.map en)
def xN (L:bB N2)(P:List N2)(X:Rs T):Sum (bR N2) (List Nat)->Prop
 | .inr q=>X= .ok (.tup [.non,.lst (eN q)])
 | .inl b'=> ∃ns',DR P ns' b'/\X= .ok (.tup [.dct (ns'.map en) (dV ns' b'),.non])
structure B6 (L:bB N2)(P:List N2):Prop where
 len:L.length<=500
 size:size L<=100000000
 ends:∀x∈L,x.1∈P/\x.2.1∈P
 pl:P.length<1000
def SOk (L:bB N2)(S:List N2):Sum (bR N2) (List Nat)->Prop
 | .inr q=>Bar L q
 | .inl b'=>Settled L S b'
theorem pf {L:bB N2}{S P:List N2}(F:B6 L P)(hS:S.Nodup)(hSP:∀v∈S,v∈P):∃r,xN L P (d7 [eL L,eS S]) r/\SOk L S r:=by
 have bound:L.length*(2*size L+1)<1000000000000 - 1:=by
  have h1:=F.len
  have h2:=F.size
  have:L.length*(2*size L+1)<=500*(2*100000000+1):=Nat.mul_le_mul h1 (by omega)
  omega
 obtain⟨r,hr,ok⟩:=pM L S bound
 have ok':SOk L S r:=by cases r <;> exact ok
 refine⟨r,?_,ok'⟩
 have hSl:S.length<=1000:=Nat.le_trans (gY hS hSP) (by have:=F.pl;omega)
 have D0:DR P S (Gr.start S):=⟨hS,λv=>by unfold Gr.start;by_cases h:v∈S <;> simp[h],hSP⟩
 have dv0:dV S (Gr.start S)=S.map λ_=>eW (0,[]):=List.map_congr_left λv hv=>by unfold Gr.start;rw[if_pos hv];rfl
 have w:=ol F.len F.pl (λx hx=>(F.ends x hx).2) (eS S) _ (Gr.start S) S .em .em .em .em .em r (lf L S) D0 hr
 have lc:eU (iS (vr 1)) [none] (gN 0) bT (bq (ac (vr 0) (ac (bq (ac (cn (.int 0)) (ac (c7 ah) ah))) ah))) [.va (eL L),.va (eS S),.em,.em,.em,.em,.em,.em,.em] = .ok (.lst (S.map λv=> .tup [en v,eW (0,[])])):=by
  have:=o5 (fi:=iS (vr 1)) (src:=[none]) (fe:=bq (ac (vr 0) (ac (bq (ac (cn (.int 0)) (ac (c7 ah) ah))) ah))) (h:=λt=> .tup [t,eW (0,[])]) (Z:=[.va (eL L),.va (eS S),.em,.em,.em,.em,.em,.em,.em]) (ts:=S.map en) (i8 rfl) (az (k:=1000) (by rw[List.length_map];exact hSl)) (by simp) λt _=>
   dA (ts:=[t,eW (0,[])]) (ap rfl (ap (dA (ts:=[.int 0,.lst []]) (ap rfl (ap (gC (ts:=[]) rfl (Nat.zero_le _)) rfl)) (az (k:=2) (by simp))) rfl)) (az (k:=2) (by simp))
  rw[this,List.map_map];rfl
 have n0:lV 2 (eU (iS (vr 1)) [none] (gN 0) bT (bq (ac (vr 0) (ac (bq (ac (cn (.int 0)) (ac (c7 ah) ah))) ah)))) [.va (eL L),.va (eS S),.em,.em,.em,.em,.em,.em,.em] = .ok (.nx [.va (eL L),.va (eS S),.ow (.dct (S.map en) (dV S (Gr.start S))),.em,.em,.em,.em,.em,.em]):=by
  unfold lV;rw[lc,aC,xA _ S hS hSl,aC,dv0]
  rfl
 have main:∀G X,bi (tb (vr 3)) wF FU (sK L (eS S) S (Gr.start S) true .em .em .em .em .em)= .ok X->fy [.va (eL L),.va (eS S),.em,.em,.em,.em,.em,.em,.em] =G->(ar (bi (tb (vr 3)) wF FU) (mU 2 (aF (bq (ac (vr 2) (ac (cn .non) ah)))))) (sK L (eS S) S (Gr.start S) true .em .em .em .em .em)=G:=λG X _ h=>by
  rw[<-h];unfold fy;rw[ax n0,ax (Z':=sK L (eS S) S (Gr.start S) true .em .em .em .em .em) (bz (t:=.bl true) rfl rfl)]
 cases r with
 | inr q=>
  have w':=fV (m:=FU) (by unfold FU;omega) w
  refine bw rfl ?_
  show fy [.va (eL L),.va (eS S),.em,.em,.em,.em,.em,.em,.em] =_
  rw[<-main _ _ w' rfl]
  exact fI w'
 | inl b'=>
  obtain⟨ns',s4,s5,s6,s7,s8,D',w⟩:=w
  have w':=fV (m:=FU) (by unfold FU;omega) w
  refine⟨ns',D',bw rfl ?_⟩
  show fy [.va (eL L),.va (eS S),.em,.em,.em,.em,.em,.em,.em] =_
  rw[<-main _ _ w' rfl,ax w'];exact BG (cF (dA (ts:=[.dct (ns'.map en) (dV ns' b'),.non]) rfl (az (k:=2) (by simp))))
theorem i5 {α:Type}{f:α->T}{p:α->Prop}:∀{l:List T},(∀t∈l,∃x,t=f x/\p x)->∃L:List α,l=L.map f/\∀x∈L,p x
 | [],_=>⟨[],rfl,λ_ h=>nomatch h⟩
 | t::l,h=>by
  obtain⟨x,e,hx⟩:=h t List.mem_cons_self;obtain⟨L,e2,h2⟩:=i5 (l:=l) λu hu=>h u (List.mem_cons_of_mem _ hu)
  exact⟨x::L,by rw[e,e2];rfl,λy hy=>(List.mem_cons.mp hy).elim (λz=>z▸hx) (h2 y)⟩
theorem lr {t:T}(h:aY t=true):∃(x y:Int) (r:List Int),t= .tup [.int x,.int y,.tup (r.map .int)]/\(0<=x/\x<=9)/\(0<=y/\y<=9)/\∀k,0<=r.getD k 0/\r.getD k 0<=99:=by
 obtain⟨x,y,r,rfl,h1,h2,h3,h4⟩:=iz h;refine⟨x,y,r,rfl,h1,h2,λk=> ?_⟩
 have h':(jS (.int x) (.int y)&&bY (.tup (r.map .int)))=true:=h;rw[Bool.and_eq_true]at h'
 have hr:=h'.2;unfold bY at hr;rw[Bool.and_eq_true]at hr
 have hr2:(((r.map T.int).all λu=>aM u 0 99)&&(match ix (r.map .int)with | some m=>j9 m | none=>false))=true:=hr.2
 rw[Bool.and_eq_true]at hr2
 by_cases hk:k<r.length
 ·have:=List.all_eq_true.mp hr2.1 (.int r[k]) (List.mem_map.mpr ⟨_,List.getElem_mem hk,rfl⟩)
  obtain⟨i,e,a,b⟩:=cz this;cases e;simp[hk];exact⟨a,b⟩
 ·simp[hk]
theorem qG {cs:List T}{i:Nat}:∀{cs0:List T} {c k:Nat},i<=c->c<i+cs0.length->k<yG (cs0.getD (c - i) .non)->T.tup [.int c,.int k] ∈dX i cs0:=by
 intro cs0
 induction cs0 generalizing i with
 | nil=>intro c k h1 h2;simp at h2;omega
 | cons a r ih=>
  intro c k h1 h2 h3;rw[dX,List.mem_append]
  by_cases e:c=i
  ·subst e
   rw[Nat.sub_self]at h3
   have h3':k<yG a:=h3;exact .inl (List.mem_map.mpr ⟨.int k,xc h3',rfl⟩)
  ·refine .inr (ih (by omega) (by rw[List.length_cons]at h2;omega) ?_)
   rw[show c - i=(c - (i+1))+1 by omega]at h3
   exact h3
theorem ml {cs:List T}{t:T}(h:aT cs t=true):t∈dX 0 cs:=by
 obtain⟨c,k,rfl⟩:=d9 h;unfold aT at h;simp only[Bool.and_eq_true,decide_eq_true_eq]at h;obtain⟨⟨h1,h2⟩,h3,h4⟩:=h;obtain⟨c,rfl⟩:=Int.eq_ofNat_of_zero_le h1;obtain⟨k,rfl⟩:=Int.eq_ofNat_of_zero_le h3;rw[lW]at h4;exact qG (cs:=cs) (Nat.zero_le _) (by omega) (by rw[Nat.sub_zero];omega)
theorem u5 {cs:List T}{t:T}(h:t∈dX 0 cs):∃v:N2,t=en v/\True:=by
 obtain⟨c,k,rfl,_⟩:=kf cs 0 h;exact⟨⟨c,k⟩,rfl,trivial⟩
def big (x:N2×N2×Int):Prop:=x.2.2.natAbs<=999
theorem lZ {a b:Int}(ha : -99<=a/\a<=99)(hb:0<=b/\b<=9):(a*b).natAbs<=999:=by
 rw[Int.natAbs_mul]
 have h1:a.natAbs<=99:=by omega
 have h2:b.natAbs<=9:=by omega
 exact Nat.le_trans (Nat.mul_le_mul h1 h2) (by decide)
theorem yk {cs0:List T}:∀{cs:List T} {i:Nat},(∀c∈cs,aY c=true)->(∀c k:Nat,i<=c->c<i+cs.length->k<yG (cs.getD (c - i) .non)->T.tup [.int c,.int k] ∈dX 0 cs0) →
  ∀t∈bC i cs,∃x,t=eB x/\(en x.1∈dX 0 cs0/\en x.2.1∈dX 0 cs0/\big x)
 | [],_,_,_,t,h=>by simp[bC]at h
 | c::cs,i,hc,hm,t,h=>by
  rw[bC,List.mem_append]at h;rcases h with h | h
  ·obtain⟨x,y,r,rfl,hx,hy,hr⟩:=lr (hc c List.mem_cons_self)
   have hm0:∀k,k<r.length->T.tup [.int i,.int k] ∈dX 0 cs0:=λk hk=>hm i k (Nat.le_refl _) (by simp) (by rw[Nat.sub_self];show k<(r.map T.int).length;rw[List.length_map];exact hk)
   rw[nZ]at h;unfold cB at h;obtain⟨k,hk,hp⟩:=List.mem_flatMap.mp h
   have hk:=List.mem_range.mp hk
   have d : -99<=dr r k/\dr r k<=99:=by have:=hr k;have:=hr (k+1);unfold dr;omega
   unfold pr at hp;simp only[List.mem_cons,List.not_mem_nil,or_false]at hp;rcases hp with rfl | rfl
   ·exact⟨(⟨i,k⟩,⟨i,((k+1:Nat):Int)⟩,dr r k*y),rfl,hm0 k (by omega),hm0 (k+1) (by omega),lZ d hy⟩
   ·exact⟨(⟨i,((k+1:Nat):Int)⟩,⟨i,k⟩,-dr r k*x),rfl,hm0 (k+1) (by omega),hm0 k (by omega),lZ (by omega) hx⟩
  ·exact yk (cs:=cs) (i:=i+1) (λc h=>hc c (List.mem_cons_of_mem _ h)) (λc k h1 h2 h3=>hm c k (by omega) (by rw[List.length_cons];omega) (by rw[show c - i=(c - (i+1))+1 by omega];exact h3)) t h
theorem Bv {cs:List T}{u:T}(hu:bc cs u=true):∀t∈lB u,∃x,t=eB x/\(en x.1∈dX 0 cs/\en x.2.1∈dX 0 cs/\big x):=by
 intro t ht;obtain⟨a,b,x,y,rfl,hd,ha,hb,_⟩:=i6 hu
 have ma:=ml ha
 have mb:=ml hb;obtain⟨va,rfl,_⟩:=u5 ma;obtain⟨vb,rfl,_⟩:=u5 mb;unfold dC at hd;rw[Bool.and_eq_true]at hd;obtain⟨i,rfl,i1,i2⟩:=cz hd.1
 have e2:lB (.tup [en va,en vb,.int i,y])= .tup [en vb,en va,.int (-i)] ::(if y.isN then []else [.tup [en va,en vb,y]]):=rfl
 rw[e2]at ht;rcases List.mem_cons.mp ht with rfl | ht
 ·exact⟨(vb,va,-i),rfl,mb,ma,by unfold big;simp only;omega⟩
 ·cases q:y.isN with
  | true=>rw[q]at ht;simp at ht
  | false=>
   rw[q]at ht
   have ht:t= .tup [en va,en vb,y]:=by simpa using ht
   have hw:aM y i 999=true:=by
    cases y with
    | non=>cases q
    | _=>exact hd.2
   obtain⟨j,rfl,j1,j2⟩:=cz hw;exact⟨(va,vb,j),ht,ma,mb,by unfold big;simp only;omega⟩
structure Rd (cs ls:List T)(L:bB N2)(P:List N2):Prop where
 g:Good cs ls
 b:je cs ls=L.map eB
 e:dX 0 cs=P.map en
 f:B6 L P
 nd:P.Nodup
 pl:P.length<=16
 ll:L.length<=60
 bg:∀x∈L,big x
theorem v7 {L:bB N2}(h:∀x∈L,big x):size L<=999*L.length:=by
 unfold size
 induction L with
 | nil=>simp
 | cons x L ih=>
  rw[List.map_cons,List.sum_cons,List.length_cons]
  have:=ih λy hy=>h y (List.mem_cons_of_mem _ hy)
  have:=h x List.mem_cons_self;unfold big at this;omega
theorem uj {P:List N2}(h:(P.map en).Nodup):P.Nodup:=by
 induction P with
 | nil=>exact List.nodup_nil
 | cons a r ih=>
  rw[List.map_cons,List.nodup_cons]at h;exact List.nodup_cons.mpr ⟨λz=>h.1 (List.mem_map.mpr ⟨a,z,rfl⟩),ih h.2⟩
theorem lX {cs ls:List T}(g:Good cs ls):∃L P,Rd cs ls L P:=by
 obtain⟨hc,c1,c4⟩:=br g.c;obtain⟨P,eP,_⟩:=i5 (f:=en) (p:=λ_=>True) (l:=dX 0 cs) λt ht=>u5 ht
 have key:∀t∈je cs ls,∃x,t=eB x/\(en x.1∈dX 0 cs/\en x.2.1∈dX 0 cs/\big x):=λt ht=>by
  unfold je at ht;rw[List.mem_append]at ht;rcases ht with h | h
  ·exact yk hc (λc k h1 h2 h3=>qG (cs:=cs) h1 h2 h3) t h
  ·obtain⟨u,hu,h⟩:=List.mem_flatMap.mp h
   exact Bv (g.l u hu) t h
 obtain⟨L,eL,hL⟩:=i5 key
 have mem:∀v:N2,en v∈dX 0 cs->v∈P:=λv hv=>by
  rw[eP]at hv;obtain⟨u,hu,e⟩:=List.mem_map.mp hv;rw[<-lh e];exact hu
 have hl:=km g;rw[eL,List.length_map]at hl
 have hp:=nC cs 0 hc;rw[eP,List.length_map]at hp
 have hs:=v7 λx hx=>(hL x hx).2.2
 exact⟨L,P,g,eL,eP,⟨by omega,by omega,λx hx=>⟨mem _ (hL x hx).1,mem _ (hL x hx).2.1⟩,by omega⟩,uj (eP▸jm cs 0),by omega,hl,λx hx=>(hL x hx).2.2⟩
def yh:T->Bool
 | .lst _=>true
 | _=>false
theorem BX (t:T)(h:t.pl=true):uP "list" t= .ok (.bl (yh t)):=by
 cases t <;> first | rfl | (simp[T.pl]at h;done)
def f8 (n:Nat)(t:T):Bool:=match t with
 | .lst l=>l.all λu=>aM u 0 ((n:Int) - 1)
 | _=>false
theorem tR {l:List T}:(T.lst l).pl=plS l:=by unfold T.pl;rfl
theorem jq (L:bB N2)(t:T)(h:t.pl=true)(hl:∀l,t= .lst l->l.length<=1000):cb [eL L,t] = .ok (.bl (f8 L.length t)):=by
 refine bw rfl ?_
 show de [.va (eL L),.va t] =_
 unfold de;refine cF ?_
 cases q:yh t with
 | false=>
  rw[ki (zN (t:=t) rfl (by rw[BX t h,q]))]
  cases t <;> first | rfl | cases q
 | true=>
  cases t with
  | lst l=>
   refine(qc (zN (t:=.lst l) rfl rfl)).trans ?_
   refine(aQ (ts:=[.lst (l.map λu=> .bl (aM u 0 ((L.length:Int) - 1)))]) (ap ?_ rfl) (all_map _ _))
   refine o5 (ts:=l) (i8 rfl) (az (hl l rfl) (by omega)) (by simp) λu hu=> ?_
   refine aQ (ts:=[u,.int 0,.int ((L.length:Int) - 1)]) (ap rfl (ap rfl (ap (aD (t:=.int (L.length:Int)) (u:=.int 1) (aQ (ts:=[eL L]) rfl ?_) rfl rfl) rfl))) (dD _ _ _ (fZ (tR▸h) hu))
   show Rs.ok (T.int ((L.map eB).length:Nat))=_
   rw[List.length_map]
  | _=>cases q
theorem kc {n:Nat}{t:T}(h:f8 n t=true):∃ks:List Nat,t= .lst (eN ks)/\∀k∈ks,k<n:=by
 cases t with
 | lst l=>
  have h:(l.all λu=>aM u 0 ((n:Int) - 1))=true:=h
  obtain⟨ks,e,hk⟩:=i5 (f:=λk:Nat=>T.int (k:Nat)) (p:=λk=>k<n) (l:=l) λu hu=>by
   obtain⟨i,rfl,a,b⟩:=cz (List.all_eq_true.mp h u hu);obtain⟨k,rfl⟩:=Int.eq_ofNat_of_zero_le a;exact⟨k,rfl,by omega⟩
  exact⟨ks,by rw[e];rfl,hk⟩
 | _=>cases h
theorem kW {n:Nat}{ks:List Nat}(h:∀k∈ks,k<n):f8 n (.lst (eN ks))=true:=by
 show((eN ks).all λu=>aM u 0 ((n:Int) - 1))=true
 rw[List.all_eq_true];intro u hu;obtain⟨k,hk,rfl⟩:=List.mem_map.mp hu
 have:=h k hk;unfold aM
 simp;omega
def run (L:bB N2):N2->List Nat->Option N2
 | a,[] =>some a
 | a,k::r=>match L[k]? with
  | some x=>if x.1=a then run L x.2.1 r else none
  | none=>none
theorem run_ch {L:bB N2}:∀{ks:List Nat} {a b:N2},run L a ks=some b↔Ch L a ks b
 | [],a,b=>by unfold run Ch;exact⟨λh=>Option.some.inj h,λh=>by rw[h]⟩
 | k::r,a,b=>by
  unfold run Ch
  cases q:L[k]? with
  | none=>simp
  | some x=>
   obtain⟨u,v,m⟩:=x;simp only
   by_cases h:u=a
   ·subst h
    rw[if_pos rfl,run_ch];exact⟨λz=>⟨v,m,rfl,z⟩,λ⟨c,m',e,z⟩=>by cases e;exact z⟩
   ·rw[if_neg h]
    exact⟨λz=>(by cases z),λ⟨c,m',e,z⟩=>by cases e;exact absurd rfl h⟩
theorem Bq (u v:N2):jU (en u) (en v)= .ok (.bl (!decide (u=v))):=by
 unfold jU;rw[if_pos (fS (nF u) rfl rfl),nL]
theorem BU (u v:N2):jM (en u) (en v)= .ok (.bl (decide (u=v))):=by
 unfold jM;rw[if_pos (fS (nF u) rfl rfl),nL]
theorem rz {L:bB N2}{k:Nat}{x:N2×N2×Int}{f g:En->Rs T}{Z:En}(hf:f Z= .ok (eL L))(hg:g Z= .ok (.int (k:Nat)))(e:L[k]? =some x):o2 aN f g Z= .ok (eB x):=
 o6 (l:=L.map eB) hf hg (by rw[List.getElem?_map,e];rfl)
abbrev Bt:En->Rs Fl:=(ar (dL (tb (o2 jU (o2 aN (o2 aN (vr 0) (vr 5)) (cn (.int 0))) (vr 4))) (aF (cn (.bl false))) sN) (bN (o2 aN (o2 aN (vr 0) (vr 5)) (cn (.int 1))) (gN 4)))
abbrev vH (L:bB N2)(s1 s2 s3:Sl)(a:N2)(s5:Sl):En:=[.va (eL L),s1,s2,s3,.va (en a),s5]
theorem qL (L:bB N2)(s1 s2 s3:Sl):∀(ks:List Nat) (a:N2) (s5:Sl),(∀k∈ks,k<L.length)->match run L a ks with
  | some c=> ∃s5',aW (gN 5) Bt (eN ks) (vH L s1 s2 s3 a s5)= .ok (.nx (vH L s1 s2 s3 c s5'))
  | none=>aW (gN 5) Bt (eN ks) (vH L s1 s2 s3 a s5)= .ok (.rt (.bl false))
 | [],a,s5,_=>⟨s5,rfl⟩
 | k::ks,a,s5,h=>by
  have hk:=h k List.mem_cons_self
  have e:L[k]? =some L[k]:=List.getElem?_eq_getElem hk
  unfold run;rw[e];simp only
  have c1:tb (o2 jU (o2 aN (o2 aN (vr 0) (vr 5)) (cn (.int 0))) (vr 4)) (vH L s1 s2 s3 a (.va (.int (k:Nat))))= .ok (!decide (L[k].1=a)):=
   cA (aD (t:=en L[k].1) (u:=en a) (aD (t:=eB L[k]) (u:=.int 0) (rz rfl rfl e) rfl rfl) rfl (Bq _ _))
  by_cases q:L[k].1=a
  ·rw[if_pos q]
   have ih:=qL L s1 s2 s3 ks L[k].2.1 (.va (.int (k:Nat))) λj hj=>h j (List.mem_cons_of_mem _ hj)
   have st:Bt (vH L s1 s2 s3 a (.va (.int (k:Nat))))= .ok (.nx (vH L s1 s2 s3 L[k].2.1 (.va (.int (k:Nat))))):=by
    rw[decide_eq_true q]at c1;refine(ax (Z':=vH L s1 s2 s3 a (.va (.int (k:Nat)))) ((dB c1).trans rfl)).trans ?_
    exact bz (t:=en L[k].2.1) (aD (t:=eB L[k]) (u:=.int 1) (rz rfl rfl e) rfl rfl) rfl
   show match run L L[k].2.1 ks with
    | some c=> ∃s5',aW (gN 5) Bt (.int (k:Nat)::eN ks) _=_
    | none=>aW (gN 5) Bt (.int (k:Nat)::eN ks) _=_
   rw[dO (Z1:=vH L s1 s2 s3 a (.va (.int (k:Nat)))) rfl st];exact ih
  ·rw[if_neg q]
   rw[decide_eq_false q]at c1;exact qQ (Z1:=vH L s1 s2 s3 a (.va (.int (k:Nat)))) rfl (fI ((fQ c1).trans rfl))
theorem xv {L:bB N2}{a b:N2}{t:T}(h:t.pl=true)(hl:∀l,t= .lst l->l.length<=1000):(f8 L.length t=false/\iZ [eL L,en a,en b,t] = .ok (.bl false)) ∨
  ∃ks,t= .lst (eN ks)/\(∀k∈ks,k<L.length)/\iZ [eL L,en a,en b,t] = .ok (.bl (decide (run L a ks=some b))):=by
 cases q:f8 L.length t with
 | false=>
  refine .inl ⟨rfl,bw rfl ?_⟩
  show gc [.va (eL L),.va (en a),.va (en b),.va t,.em,.em] =_
  unfold gc
  exact fI ((fQ (ik (k:=false) (cA (aQ (ts:=[eL L,t]) rfl (by rw[jq L t h hl,q]))))).trans rfl)
 | true=>
  obtain⟨ks,rfl,hk⟩:=kc q;refine .inr ⟨ks,rfl,hk,bw rfl ?_⟩
  show gc [.va (eL L),.va (en a),.va (en b),.va (.lst (eN ks)),.em,.em] =_
  unfold gc;rw[ax (Z':=[.va (eL L),.va (en a),.va (en b),.va (.lst (eN ks)),.em,.em]) ((dB (ik (k:=true) (cA (aQ (ts:=[eL L,.lst (eN ks)]) rfl (by rw[jq L _ h hl,q]))))).trans rfl)]
  rw[ax (Z':=vH L (.va (en a)) (.va (en b)) (.va (.lst (eN ks))) a .em) (bz (t:=en a) rfl rfl)]
  have lo:=qL L (.va (en a)) (.va (en b)) (.va (.lst (eN ks))) ks a .em hk
  cases r:run L a ks with
  | none=>
   rw[r]at lo
   rw[fI (fR (ts:=eN ks) (i8 rfl) lo)];rfl
  | some c=>
   rw[r]at lo;obtain⟨s5,lo⟩:=lo;rw[ax (fR (ts:=eN ks) (i8 rfl) lo)];refine cF ((aD (t:=en c) (u:=en b) rfl rfl (BU c b)).trans ?_)
   simp
theorem gW (f:Nat->Int):∀ks:List Nat,ig (ks.map λk=>T.int (f k))=some (ks.map f)
 | [] =>rfl
 | k::ks=>by rw[List.map_cons,ig,gW f ks];rfl
theorem pB (L:bB N2):∀ks:List Nat,(ks.map (most L)).sum=bQ L ks
 | [] =>rfl
 | k::ks=>by rw[List.map_cons,List.sum_cons,pB L ks];rfl
theorem BW {L:bB N2}{ks:List Nat}(hk:∀k∈ks,k<L.length)(hl:ks.length<=1000):iY [eL L,.lst (eN ks)] = .ok (.int (bQ L ks)):=by
 refine bw rfl ?_
 show gJ [.va (eL L),.va (.lst (eN ks))] =_
 unfold gJ
 have e:eU (iS (vr 1)) [none,some 0] (gN 0) bT (o2 aN (o2 aN (vr 1) (vr 0)) (cn (.int 2))) [.va (eL L),.va (.lst (eN ks))] = .ok (.lst ((eN ks).map λt=>match t with | .int i=> .int (most L i.toNat) | _=> .non)):=
  o5 (ts:=eN ks) (i8 rfl) (az (by unfold eN;rw[List.length_map];exact hl) (by omega)) (by simp) λt ht=>by
   obtain⟨k,h,rfl⟩:=List.mem_map.mp ht
   have h:=hk k h
   have e:L[k]? =some L[k]:=List.getElem?_eq_getElem h
   refine(aD (t:=eB L[k]) (u:=.int 2) (rz rfl rfl e) rfl rfl).trans ?_
   show Rs.ok (T.int L[k].2.2)= .ok (.int (most L (k:Int).toNat))
   rw[Int.toNat_natCast,most,e]
 refine cF (aQ (ap e rfl) ?_)
 have:((eN ks).map λt=>match t with | .int i=>T.int (most L i.toNat) | _=> .non)=ks.map λk=>T.int (most L k):=by
  unfold eN;rw[List.map_map];exact List.map_congr_left λk _=>by show T.int (most L (k:Int).toNat)=_;rw[Int.toNat_natCast]
 rw[this]
 show(match ig (ks.map λk=>T.int (most L k))with | some ns=>Rs.ok (T.int ns.sum) | none=> .bad)=_
 rw[gW]
 show Rs.ok (T.int (ks.map (most L)).sum)=_
 rw[pB]
def xh (t:T):List Nat:=match t with
 | .lst l=>l.map λu=>match u with | .int i=>i.toNat | _=>0
 | _=> []
theorem fF (ks:List Nat):xh (.lst (eN ks))=ks:=by
 show(eN ks).map _=ks
 unfold eN;rw[List.map_map]
 have:∀l:List Nat,l.map ((λu=>match u with | T.int i=>i.toNat | _=>0)∘λk:Nat=>T.int (k:Nat))=l:=by
  intro l
  induction l with
  | nil=>rfl
  | cons a l ih=>rw[List.map_cons,ih];rfl
 exact this ks
section
variable {cs ls:List T}{L:bB N2}{P:List N2}
theorem Rd.ev (R:Rd cs ls L P){v:N2}(h:v∈P):aT cs (en v)=true:=u4 (by rw[R.e];exact List.mem_map.mpr ⟨v,h,rfl⟩)
theorem Rd.bounds (R:Rd cs ls L P):bj [.tup [.tup cs,.tup ls]] = .ok (eL L):=by rw[ph R.g,R.b];rfl
end
section
variable {cs ls:List T}{L:bB N2}{P:List N2}
theorem Rd.events (R:Rd cs ls L P):ck [.tup [.tup cs,.tup ls]] = .ok (eS P):=by rw[ua R.g,R.e];rfl
theorem Af {ns:List N2}{b:bR N2}(D:DR P ns b){v:N2}{x:Int×List Nat}(e:b v=some x):jt (.dct (ns.map en) (dV ns b)) (en v)= .ok (eW x):=by
 unfold jt;simp only[cm];rw[D.get,e];rfl
def fG (P:List N2)(t:N2->Int):T:=.tup (P.map λv=> .int (t v))
def Ca (b:bR N2)(v:N2):Int:=match b v with
 | some x=>x.1
 | none=>0
def atT (t:N2->Int)(u:T):T:=match u with
 | .tup [.int c,.int k] => .int (t ⟨c,k⟩)
 | _=> .non
theorem Rd.world (R:Rd cs ls L P):(¬gI L/\dS [(.tup [.tup cs,.tup ls])] = .ok .non)\/(gI L/\∃t b,Settled L P b/\(∀v∈P,∃w,b v=some (t v,w))/\dS [(.tup [.tup cs,.tup ls])] = .ok (fG P t)):=by
 obtain⟨r,hr,ok⟩:=pf R.f R.nd (λv h=>h)
 have wrap:∀{w:T},cW [(.tup [.tup cs,.tup ls]),eL L] = .ok w->dS [(.tup [.tup cs,.tup ls])] = .ok w:=λ{w} e=>bw rfl (cF (aQ (ts:=[(.tup [.tup cs,.tup ls]),eL L]) (ap rfl (ap (aQ (ts:=[(.tup [.tup cs,.tup ls])]) rfl R.bounds) rfl)) e))
 have begin_:∀{x z:T} {y:Rs Fl},d7 [eL L,eS P] = .ok (.tup [x,z])->((ar (dL (tb (o2 eV (vr 3) (cn .non))) (aF (cn .non)) sN) (aF (cl fW (ac (eU (iS (vr 2)) [none,some 3] (gN 0) bT (o2 aN (o2 jt (vr 1) (vr 0)) (cn (.int 0)))) ah)))) [.va (.tup [.tup cs,.tup ls]),.va (eL L),.va (eS P),.va x] =y)->cr [.va (.tup [.tup cs,.tup ls]),.va (eL L),.em,.em] =y:=λ{x z y} hs hy=>by
  unfold cr;rw[ax (Z':=[.va (.tup [.tup cs,.tup ls]),.va (eL L),.va (eS P),.em]) (bz (aQ (ts:=[(.tup [.tup cs,.tup ls])]) rfl R.events) rfl)];rw[ax (Z':=[.va (.tup [.tup cs,.tup ls]),.va (eL L),.va (eS P),.va x]) (bz (aD (u:=.int 0) (aQ (ts:=[eL L,eS P]) rfl hs) rfl rfl) rfl)];exact hy
 cases r with
 | inr q=>exact .inl ⟨λn=>absurd n (Bar.neg ok),wrap (bw rfl (begin_ hr (fI ((fQ (cA (aD (t:=.non) (u:=.non) rfl rfl rfl))).trans rfl))))⟩
 | inl b=>
  obtain⟨ns,D,hr⟩:=hr
  have ok:Settled L P b:=ok
  have htm:∀v∈P,∃w,b v=some (Ca b v,w):=λv hv=>by
   obtain⟨d,w,e,_⟩:=ok.least v hv v 0 (.nil v);exact⟨w,by unfold Ca;rw[e]⟩
  refine .inr ⟨(ok.holds R.f.ends htm).noNeg,Ca b,b,ok,htm,wrap (bw rfl (begin_ hr ?_))⟩
  generalize Ca b=tm at htm
  have lc:eU (iS (vr 2)) [none,some 3] (gN 0) bT (o2 aN (o2 jt (vr 1) (vr 0)) (cn (.int 0))) [.va (.tup [.tup cs,.tup ls]),.va (eL L),.va (eS P),.va (.dct (ns.map en) (dV ns b))] = .ok (.lst ((P.map en).map (atT tm))):=
   o5 (ts:=P.map en) (i8 rfl) (az (k:=16) (by rw[List.length_map];exact R.pl)) (by simp) λt ht=>by
    obtain⟨v,hv,rfl⟩:=List.mem_map.mp ht;obtain⟨w,e⟩:=htm v hv;exact aD (t:=eW (tm v,w)) (u:=.int 0) (aD (t:=.dct (ns.map en) (dV ns b)) (u:=en v) rfl rfl (Af D e)) rfl rfl
  rw[List.map_map]at lc;rw[ax (Z':=[.va (.tup [.tup cs,.tup ls]),.va (eL L),.va (eS P),.va (.dct (ns.map en) (dV ns b))]) ((dB (cA (aD (t:=.dct (ns.map en) (dV ns b)) (u:=.non) rfl rfl rfl))).trans rfl)];exact cF (aQ (ap lc rfl) rfl)
theorem Rd.hasw (R:Rd cs ls L P):∃hw:Bool,dn [(.tup [.tup cs,.tup ls])] = .ok (.bl hw)/\(hw=true↔gI L):=by
 rcases R.world with⟨n,e⟩ | ⟨n,t,b,_,_,e⟩
 ·exact⟨false,bw rfl (cF (aD (t:=.non) (u:=.non) (aQ (ts:=[(.tup [.tup cs,.tup ls])]) rfl e) rfl rfl)),λz=>(by cases z),λz=>absurd z n⟩
 ·exact⟨true,bw rfl (cF (aD (t:=fG P t) (u:=.non) (aQ (ts:=[(.tup [.tup cs,.tup ls])]) rfl e) rfl rfl)),λ_=>n,λ_=>rfl⟩
end
section
variable {P:List N2}{L:bB N2}
theorem o0:∀(P:List N2),jK (P.map en)=true
 | [] =>rfl
 | u::P=>by
  have:=o0 P;simp[jK,cm,this]
end
theorem qb {f:En->Rs T}{l:List T}{t:T}{Z:En}{i:Int}(n:Nat)(h:f Z= .ok (.tup l))(e:l[n]? =some t)(hi:i=(n:Nat):=by rfl):o2 aN f (cn (.int i)) Z= .ok t:=by subst hi;exact sd h rfl e
theorem k7 {g:T->En->Rs En}{fc:En->Rs Bool}{fe:En->Rs T}{p:T->Bool}{h:T->T}(I:En->Prop):∀(ts:List T) (Z:En),I Z->(∀t∈ts,∀Z,I Z->∃Z1,g t Z= .ok Z1/\I Z1/\fc Z1= .ok (p t)/\fe Z1= .ok (h t))->cL g fc fe ts Z= .ok ((ts.filter p).map h)
 | [],_,_,_=>rfl
 | t::r,Z,hI,hf=>by
  obtain⟨Z1,e1,i1,e2,e3⟩:=hf t List.mem_cons_self Z hI
  have ih:=k7 I r Z1 i1 λu hu=>hf u (List.mem_cons_of_mem _ hu)
  unfold cL
  cases q:p t with
  | true=>simp only[e1,aC,e2,q,if_true,e3,ih,List.filter_cons_of_pos q,List.map_cons]
  | false=>simp only[e1,aC,e2,q,Bool.false_eq_true,if_false,ih,List.filter_cons_of_neg (show ¬p t=true by rw[q];decide)]
theorem mr (g:N2->T):∀(S ns:List N2),(ns++S).Nodup->fx ((S.map en).zip (S.map g)) (ns.map en,ns.map g)=((ns++S).map en,(ns++S).map g)
 | [],ns,_=>by rw[List.append_nil];rfl
 | v::S,ns,hn=>by
  have hv:v∉ns:=λz=>by
   rw[List.nodup_append]at hn;exact hn.2.2 v z v List.mem_cons_self rfl
  rw[List.map_cons,List.map_cons,List.zip_cons_cons,fx,ja _ _ _ _ hv]
  have e1:ns.map en++ [en v] =(ns++ [v]).map en:=by rw[List.map_append];rfl
  have e2:ns.map g++ [g v] =(ns++ [v]).map g:=by rw[List.map_append];rfl
  rw[e1,e2,mr g S (ns++ [v]) (by rw[List.append_assoc];exact hn),List.append_assoc]
  rfl
def vg (P:List N2)(t:N2->Int):T:=.dct (P.map en) (P.map λv=> .int (t v))
def hB (t:N2->Int)(x:N2×N2×Int):Bool:=decide (t x.2.1 - t x.1<=x.2.2)
def Cj (t:N2->Int)(u:T):Bool:=match u with
 | .tup [_,.tup [.tup [.int a,.int b],.tup [.int c,.int d],.int m]] => !hB t (⟨a,b⟩,⟨c,d⟩,m)
 | _=>false
def brH (u:T):T:=match u with
 | .tup [i,_] =>i
 | _=> .non
def xG (t:N2->Int)(L:bB N2):List T:=((bp 0 (L.map eB)).filter (Cj t)).map brH
theorem vm (t:N2->Int)(i:T)(x:N2×N2×Int):Cj t (.tup [i,eB x])= !hB t x:=rfl
theorem u6 {t:T}:∀{l:List T} {i:Nat},t∈bp i l->∃k u,u∈l/\t= .tup [.int (k:Nat),u]
 | [],i,h=>by simp[bp]at h
 | u::l,i,h=>by
  rw[bp,List.mem_cons]at h;rcases h with rfl | h
  ·exact⟨i,u,List.mem_cons_self,rfl⟩
  ·obtain⟨k,w,hw,e⟩:=u6 h
   exact⟨k,w,List.mem_cons_of_mem _ hw,e⟩
theorem nI (t:N2->Int):∀(L:bB N2) (i:Nat),((bp i (L.map eB)).filter (Cj t))= [] ↔L.all (hB t)=true
 | [],i=>by simp[bp]
 | x::L,i=>by
  rw[List.map_cons,bp,List.all_cons,Bool.and_eq_true,<-nI t L (i+1)]
  cases q:hB t x with
  | true=>rw[List.filter_cons_of_neg (by rw[vm,q];decide)];simp
  | false=>rw[List.filter_cons_of_pos (by rw[vm,q];rfl)];simp
theorem holds_all {L:bB N2}{t:N2->Int}:L.all (hB t)=true↔Holds L t:=by
 rw[List.all_eq_true];refine⟨λh a b m hm=>by have:=h _ hm;exact of_decide_eq_true this,λh x hx=>decide_eq_true (h _ _ _ hx)⟩
theorem pe:∀(l:List T) (i:Nat),(bp i l).length=l.length
 | [],_=>rfl
 | t::l,i=>by rw[bp,List.length_cons,List.length_cons,pe l (i+1)]
theorem xF {t:N2->Int}{L:bB N2}{u:T}(h:u∈xG t L):∃k:Nat,u= .int (k:Nat):=by
 obtain⟨w,hw,rfl⟩:=List.mem_map.mp h;obtain⟨k,y,_,rfl⟩:=u6 (List.mem_filter.mp hw).1;exact⟨k,rfl⟩
theorem Al (t:N2->Int)(L:bB N2):jM (.lst (xG t L)) (.lst [])= .ok (.bl (L.all (hB t))):=by
 have pl:(T.lst (xG t L)).pl=true:=by
  unfold T.pl;exact ir λu hu=>by obtain⟨k,rfl⟩:=xF hu;rfl
 unfold jM;rw[if_pos (o8 (by simp[T.dep,deps]) (T.pl_nd _ pl) (T.pl_nd _ (by rfl)))]
 cases q:L.all (hB t)with
 | true=>
  unfold xG
  rw[(nI t L 0).mpr q];rfl
 | false=>
  have:xG t L≠ []:=λz=>by
   unfold xG at z;rw[(nI t L 0).mp (List.map_eq_nil_iff.mp z)]at q;cases q
  cases e:xG t L with
  | nil=>exact absurd e this
  | cons a l=>simp[aO,beqTs]
def zS (n:Nat)(u:T):Bool:=dl u n n&&(match u with
 | .tup l=>l.all Cg
 | _=>false)
theorem AA (P:List N2)(t:N2->Int):zS P.length (fG P t)=true:=by
 unfold zS fG;simp only[Bool.and_eq_true];refine⟨by simp[dl],List.all_eq_true.mpr λu hu=> ?_⟩
 obtain⟨v,_,rfl⟩:=List.mem_map.mp hu
 rfl
theorem Az (P:List N2)(t:N2->Int):(fG P t).pl=true:=by
 unfold fG;rw[gy];exact ir λu hu=>by obtain⟨v,_,rfl⟩:=List.mem_map.mp hu;rfl
section
variable {cs ls:List T}{L:bB N2}{P:List N2}
theorem Rd.pos (R:Rd cs ls L P):0<P.length:=by
 obtain⟨hcl,c1,_⟩:=br R.g.c
 have e:=congrArg List.length R.e;rw[List.length_map]at e;rw[<-e]
 cases cs with
 | nil=>simp at c1
 | cons c cs=>
  obtain⟨x,y,r,rfl,r1,_⟩:=ee (hcl c List.mem_cons_self);rw[dX,List.length_append,fT]
  show 0<r.length+_
  omega
theorem Rd.dz (R:Rd cs ls L P)(t:N2->Int):BY [eS P,fG P t] = .ok (vg P t):=by
 have h0:=R.pos
 have h1:=R.pl
 show(if jK (P.map en)=true/\(P.map en).length=(P.map λv=>T.int (t v)).length/\1<=(P.map en).length/\(P.map en).length<=1000 then _ else _)=_
 rw[if_pos ⟨o0 P,by rw[List.length_map,List.length_map],by rw[List.length_map];omega,by rw[List.length_map];omega⟩]
 have:=mr (λv=> .int (t v)) P [] (by simpa using R.nd)
 rw[List.nil_append]at this;rw[show(([]:List T),([]:List T))=(([]:List N2).map en,([]:List N2).map λv=>T.int (t v))from rfl,this]
 rfl
theorem yj {t:N2->Int}{v:N2}{a b:En->Rs T}{Z:En}(ha:a Z= .ok (vg P t))(hb:b Z= .ok (en v))(hv:v∈P):o2 jt a b Z= .ok (.int (t v)):=by
 refine aD (t:=vg P t) (u:=en v) ha hb ?_
 show(match lp (P.map en) (P.map λv=>T.int (t v)) (ky v)with | some t=>Rs.ok t | none=> .bad)=_
 rw[nE (λv=>T.int (t v)),if_pos hv]
theorem xw {t:N2->Int}{x:N2×N2×Int}(h1:x.1∈P)(h2:x.2.1∈P):kg [eB x,vg P t] = .ok (.bl (hB t x)):=by
 refine bw rfl (cF ?_)
 show o2 zG (o2 eF (o2 jt (vr 1) (o2 aN (vr 0) (cn (.int 1)))) (o2 jt (vr 1) (o2 aN (vr 0) (cn (.int 0))))) (o2 aN (vr 0) (cn (.int 2))) [.va (eB x),.va (vg P t)] =_
 exact aD (t:=.int (t x.2.1 - t x.1)) (u:=.int x.2.2) (aD (t:=.int (t x.2.1)) (u:=.int (t x.1)) (yj (P:=P) rfl (qb 1 rfl rfl) h2) (yj (P:=P) rfl (qb 0 rfl rfl) h1) rfl) (qb 2 rfl rfl) rfl
theorem Rd.broken (R:Rd cs ls L P)(t:N2->Int):i0 [(.tup [.tup cs,.tup ls]),fG P t] = .ok (.lst (xG t L)):=by
 refine bw rfl ?_
 show gM [.va (.tup [.tup cs,.tup ls]),.va (fG P t),.em] =_
 unfold gM;rw[ax (Z':=[.va (.tup [.tup cs,.tup ls]),.va (fG P t),.va (vg P t)]) (bz (aQ (ts:=[eS P,fG P t]) (ap (aQ (ts:=[(.tup [.tup cs,.tup ls])]) rfl R.events) rfl) (R.dz t)) rfl)];refine cF ?_
 unfold eU;rw[yg (l:=L.map eB) (ap (aQ (ts:=[(.tup [.tup cs,.tup ls])]) rfl R.bounds) rfl),aC,if_pos (az (k:=60) (by rw[pe,List.length_map];exact R.ll))]
 rw[show cw [none,none,some 2] [.va (.tup [.tup cs,.tup ls]),.va (fG P t),.va (vg P t)] = [.em,.em,.va (vg P t)]from rfl,k7 (p:=Cj t) (h:=brH) (λZ=> ∃a b,Z= [a,b,.va (vg P t)]) _ _ ⟨_,_,rfl⟩ λu hu Z hh_=>by
  obtain⟨a,b,e⟩:=hh_;subst e;obtain⟨k,w,hw,rfl⟩:=u6 hu;obtain⟨x,hx,rfl⟩:=List.mem_map.mp hw
  have hh:=R.f.ends x hx;exact⟨[.va (.int (k:Nat)),.va (eB x),.va (vg P t)],rfl,⟨_,_,rfl⟩,(ik (cA (aQ (ts:=[eB x,vg P t]) rfl (xw hh.1 hh.2)))),rfl⟩]
 rfl
theorem Rd.aret (R:Rd cs ls L P){u:T}(hu:u.pl=true):fB [(.tup [.tup cs,.tup ls]),u] = .ok (.bl (zS P.length u)):=by
 refine bw rfl ?_
 show ez [.va (.tup [.tup cs,.tup ls]),.va u,.em] =_
 unfold ez;rw[ax (Z':=[.va (.tup [.tup cs,.tup ls]),.va u,.va (.int (P.length:Nat))]) (bz (aQ (ts:=[eS P]) (ap (aQ (ts:=[(.tup [.tup cs,.tup ls])]) rfl R.events) rfl) (by show Rs.ok (T.int ((P.map en).length:Nat))=_;rw[List.length_map])) rfl)]
 refine cF (qS (aQ (ts:=[u,.int (P.length:Nat),.int (P.length:Nat)]) rfl (gF u P.length P.length hu)) λh=> ?_)
 obtain⟨l,rfl,_,hl⟩:=cE h;exact lD (k_iS rfl) (az (k:=16) (by have:=R.pl;omega)) (by simp) λv hv=>aQ (ts:=[v]) rfl (qZ v (by rw[gy]at hu;exact fZ hu hv))
theorem Rd.isw (R:Rd cs ls L P)(t:N2->Int):dj [(.tup [.tup cs,.tup ls]),fG P t] = .ok (.bl (L.all (hB t))):=by
 refine bw rfl (cF ?_)
 refine(qc (aQ (ts:=[(.tup [.tup cs,.tup ls]),fG P t]) rfl (by rw[R.aret (Az P t),AA]))).trans ?_
 exact aD (t:=.lst (xG t L)) (u:=.lst []) (aQ (ts:=[(.tup [.tup cs,.tup ls]),fG P t]) rfl (R.broken t)) (gC rfl (az (k:=1) (by simp))) (Al t L)
end
def fK (L:bB N2)(k:Nat):N2:=match L[k]? with
 | some x=>x.1
 | none=>⟨0,0⟩
def barK (L:bB N2)(ks:List Nat):Bool:=match ks with
 | [] =>false
 | k::r=>decide (run L (fK L k) (k::r)=some (fK L k))&&decide (bQ L (k::r)<0)
def jy (L:bB N2)(t:T):Bool:=f8 L.length t&&barK L (xh t)
theorem x5 (w:List Nat):∀u∈eN w,u.pl=true:=λu hu=>by obtain⟨k,_,rfl⟩:=List.mem_map.mp hu;rfl
theorem qf (l:List T)(h:(T.lst l).pl=true):jM (.lst l) (.lst [])= .ok (.bl l.isEmpty):=by
 unfold jM;rw[if_pos (o8 (by simp[T.dep,deps]) (T.pl_nd _ h) rfl)]
 cases l with
 | nil=>rfl
 | cons k r=>simp[aO,beqTs]
theorem k6 (ks:List Nat):(eN ks).length=ks.length:=List.length_map _
section
variable {cs ls:List T}{L:bB N2}{P:List N2}{ns:List Int}
theorem xt {t:T}(h:t.pl=true)(hl:∀l,t= .lst l->l.length<=1000):cZ [eL L,t] = .ok (.bl (f8 L.length t&&match xh t with | [] =>false | k::r=>decide (run L (fK L k) (k::r)=some (fK L k)))):=by
 refine bw rfl ?_
 show db [.va (eL L),.va t,.em] =_
 unfold db
 have nm:=jq L t h hl
 cases q:f8 L.length t with
 | false=>
  exact fI ((fQ (ye (ik (k:=false) (cA (aQ (ts:=[eL L,t]) rfl (by rw[nm,q])))))).trans rfl)
 | true=>
  obtain⟨ks,rfl,hk⟩:=kc q
  have c:=qP (ik (k:=true) (cA (aQ (g:=cb) (fs:=ac (vr 0) (ac (vr 1) ah)) (Z:=[.va (eL L),.va (.lst (eN ks)),.em]) (ts:=[eL L,.lst (eN ks)]) rfl (by rw[nm,q])))) (cA (aD (fa:=vr 1) (fb:=c7 ah) (t:=.lst (eN ks)) (u:=.lst []) rfl (gC rfl (az (k:=1) (by simp))) (qf _ h)))
  rw[fF]
  cases ks with
  | nil=>exact fI ((fQ c).trans rfl)
  | cons k r=>
   rw[ax (Z':=[.va (eL L),.va (.lst (eN (k::r))),.em]) ((dB c).trans rfl)]
   have hk0:=hk k List.mem_cons_self
   have e:L[k]? =some L[k]:=List.getElem?_eq_getElem hk0
   have sr:fK L k=L[k].1:=by unfold fK;rw[e]
   rw[ax (Z':=[.va (eL L),.va (.lst (eN (k::r))),.va (en (fK L k))]) (bz (t:=en (fK L k)) (aD (t:=eB L[k]) (u:=.int 0) (rz rfl (o6 (l:=eN (k::r)) (n:=0) rfl rfl rfl) e) rfl (by rw[sr];rfl)) rfl)]
   rcases xv (L:=L) (a:=fK L k) (b:=fK L k) h hl with⟨z,_⟩ | ⟨ks',ek,_,e2⟩
   ·rw[q]at z;cases z
   ·have:ks'=k::r:=by have:=congrArg xh ek;rw[fF,fF]at this;exact this.symm
    subst this;exact cF (aQ (ts:=[eL L,en (fK L k),en (fK L k),.lst (eN (k::r))]) rfl (by rw[e2,Bool.true_and]))
theorem Rd.bars (R:Rd cs ls L P){t:T}(h:t.pl=true)(hl:∀l,t= .lst l->l.length<=1000):eJ [.tup [.tup cs,.tup ls],t] = .ok (.bl (jy L t)):=by
 refine bw rfl ?_
 show lE [.va (.tup [.tup cs,.tup ls]),.va t,.em] =_
 unfold lE;rw[ax (Z':=[.va (.tup [.tup cs,.tup ls]),.va t,.va (eL L)]) (bz (aQ (ts:=[.tup [.tup cs,.tup ls]]) rfl R.bounds) rfl)]
 have rd:=aQ (g:=cZ) (fs:=ac (vr 2) (ac (vr 1) ah)) (Z:=[.va (.tup [.tup cs,.tup ls]),.va t,.va (eL L)]) (ts:=[eL L,t]) rfl (xt (L:=L) h hl);refine cF ?_
 unfold jy
 cases q:f8 L.length t with
 | false=>rw[q]at rd;exact ki rd
 | true=>
  obtain⟨ks,rfl,hk⟩:=kc q;rw[q,fF,Bool.true_and]at rd;rw[fF,Bool.true_and]
  cases ks with
  | nil=>exact ki rd
  | cons k r=>exact qS rd λ_=>aD (t:=.int (bQ L (k::r))) (u:=.int 0) (aQ (ts:=[eL L,.lst (eN (k::r))]) rfl (BW hk (by have:=hl _ rfl;rwa [k6]at this))) rfl rfl
theorem ox {k:Nat}{r:List Nat}{a c:N2}(h:run L a (k::r)=some c):fK L k=a:=by
 unfold run at h;unfold fK
 cases e:L[k]? with
 | none=>rw[e]at h;cases h
 | some y=>
  rw[e]at h;simp only at h ⊢
  by_cases z:y.1=a
  ·exact z
  ·rw[if_neg z]at h;cases h
end
def Ok (t:T):Prop:=t.pl=true/\∀l,t= .lst l->l.length<=1000
theorem yb (b:Bool):jU (.bl b) (.bl b)= .ok (.bl false):=xb rfl (by simp[T.dep])
theorem vZ {f g:En->Rs T}{Z:En}{l:List T}{n:Nat}(h:f Z= .ok (.lst l))(h2:g Z= .ok (.int (n:Nat))):sl f pN (pS g) Z= .ok (.lst (l.take n)):=by rw[uH h rfl (uJ h2),lq]
theorem v6 {f g:En->Rs T}{Z:En}{l:List T}{n:Nat}(h:f Z= .ok (.lst l))(h2:g Z= .ok (.int (n:Nat))):sl f (pS g) pN Z= .ok (.lst (l.drop n)):=by rw[uH h (uJ h2) rfl,pz]
section
variable {cs ls:List T}{L:bB N2}{P:List N2}{ns:List Int}
theorem Rd.barring (R:Rd cs ls L P):∃t,((gI L/\t= .non)\/(∃q,Bar L q/\t= .lst (eN q)))/\eY [.tup [.tup cs,.tup ls]] = .ok t:=by
 obtain⟨r,hr,ok⟩:=pf R.f R.nd (λv h=>h)
 have wrap:∀{x y:T},d7 [eL L,eS P] = .ok (.tup [x,y])->eY [.tup [.tup cs,.tup ls]] = .ok y:=λ{x y} e=>
  bw rfl (cF (aD (t:=.tup [x,y]) (u:=.int 1) (aQ (ts:=[eL L,eS P]) (ap (aQ (ts:=[.tup [.tup cs,.tup ls]]) rfl R.bounds) (ap (aQ (ts:=[.tup [.tup cs,.tup ls]]) rfl R.events) rfl)) e) rfl rfl))
 cases r with
 | inr q=>exact⟨_,.inr ⟨q,ok,rfl⟩,wrap hr⟩
 | inl b=>
  obtain⟨ms,D,hr⟩:=hr
  have ok:Settled L P b:=ok
  have all:∀v∈P,∃d w,b v=some (d,w):=λv hv=>by
   obtain⟨d,w,e,_⟩:=ok.least v hv v 0 (.nil v);exact⟨d,w,e⟩
  let tm:N2->Int:=λv=>match b v with | some x=>x.1 | none=>0
  have htm:∀v∈P,∃w,b v=some (tm v,w):=λv hv=>by
   obtain⟨d,w,e⟩:=all v hv;refine⟨w,?_⟩
   show b v=some ((match b v with | some x=>x.1 | none=>0),w)
   rw[e]
  exact⟨_,.inl ⟨(ok.holds R.f.ends htm).noNeg,rfl⟩,wrap hr⟩
theorem Ao {q:List Nat}(h:Bar L q):jy L (.lst (eN q))=true:=by
 obtain⟨h0,⟨a,ha⟩,hc,_⟩:=h;unfold jy;rw[fF,kW ha.lt,Bool.true_and]
 cases q with
 | nil=>exact absurd rfl h0
 | cons k r=>
  have hr:=run_ch.mpr ha
  have e:=ox hr
  show(decide (run L (fK L k) (k::r)=some (fK L k))&&decide (bQ L (k::r)<0))=true
  rw[e,decide_eq_true hr,decide_eq_true hc];rfl
end
theorem k_lR {f:En->Rs (List T)}{Z:En}{a b:Nat}(h:f Z= .ok [.int a,.int b])(h1:a<=100)(h2:b<=100):lR f Z= .ok (.lst (rng a b)):=by
 unfold lR;rw[h,aC]
 have hd:((b:Int) - (a:Int)).toNat<=1000:=by omega
 have e:(o7 (a:Int)&&o7 (b:Int)&&decide (((b:Int) - (a:Int)).toNat<=1000))=true:=by rw[nv h1,nv h2,decide_eq_true hd];exact rfl
 exact if_pos e
theorem uo {n:Int}{t:T}(ht:t.pl=true)(h:aM t 0 (n - 1)=true):dU [.int n,t] = .ok .non:=by
 refine uG (Z:=[.va (.int n),.va t]) rfl ?_
 show da [.va (.int n),.va t] =_
 unfold da;exact(dB (ik (k:=true) (cA (aQ (ts:=[t,.int 0,.int (n - 1)]) rfl (by rw[dD _ _ _ ht,h]))))).trans rfl
theorem t9 {cs ls:List T}{n:Nat}(g:Good cs ls)(hn:n<ls.length):cO [.tup [.tup cs,.tup ls],.int n] = .ok (.lst (rng ((je cs (ls.take n)).length:Nat) ((je cs (ls.take n)).length+(lB ls[n]).length:Nat))):=by
 have hb:=km (g.take n)
 have hl2:=p8 ls[n];refine bw rfl ?_
 show ef [.va (.tup [.tup cs,.tup ls]),.va (.int n),.em,.em] =_
 unfold ef;rw[ax (xj (t:=.non) (aQ (ts:=[.tup [.tup cs,.tup ls]]) rfl (kY g.p g.ok)))];rw[ax (Z':=[.va (.tup [.tup cs,.tup ls]),.va (.int n),.va (.tup ls),.em]) ((bz (t:=.tup ls) rfl rfl))]
 have w:aM (.int n) 0 ((ls.length:Int) - 1)=true:=by unfold aM;simp;omega
 rw[ax (xj (t:=.non) (aQ (ts:=[.int (ls.length:Int),.int n]) rfl (uo rfl w)))];rw[ax (Z':=[.va (.tup [.tup cs,.tup ls]),.va (.int n),.va (.tup ls),.va (.int ((je cs (ls.take n)).length:Nat))]) (bz (t:=.int ((je cs (ls.take n)).length:Nat)) (aQ (ts:=[.lst (je cs (ls.take n))]) (ap (aQ (ts:=[.tup [.tup cs,.tup (ls.take n)]]) (ap (dA (ap (t:=.tup cs) rfl (ap (t:=.tup (ls.take n)) (by rw[<-lq];exact Bw rfl rfl (uJ rfl)) rfl)) (az (k:=2) (by simp))) rfl) (ph (g.take n))) rfl) rfl) rfl)]
 refine cF (k_lR (a:=(je cs (ls.take n)).length) (b:=(je cs (ls.take n)).length+(lB ls[n]).length) (ap (t:=.int ((je cs (ls.take n)).length:Nat)) rfl (ap (t:=.int ((je cs (ls.take n)).length+(lB ls[n]).length:Nat)) (aD (t:=.int ((je cs (ls.take n)).length:Nat)) (u:=.int ((lB ls[n]).length:Nat)) rfl (aQ (ts:=[.lst (lB ls[n])]) (ap (aQ (ts:=[ls[n]]) (ap (sd (n:=n) (l:=ls) rfl rfl (List.getElem?_eq_getElem hn)) rfl) (mq (g.l _ (List.getElem_mem hn)))) rfl) rfl) (congrArg (λz=>Rs.ok (T.int z)) (by omega))) rfl)) (by omega) (by omega))
theorem tE:∀{r:List Int} {k:Nat},j9 r=true->k+1<r.length->0<=dr r k
 | [],k,_,h=>by simp at h
 | [a],k,_,h=>by simp at h
 | a::b::r,0,h,_=>by
  rw[wc,Bool.and_eq_true]at h
  have:=of_decide_eq_true h.1
  show 0<=b - a
  omega
 | a::b::r,k+1,h,hk=>by
  rw[wc,Bool.and_eq_true]at h;exact tE (r:=b::r) (k:=k) h.2 (by simpa using hk)
theorem lu {t:T}(h:aY t=true):∃(x y:Int) (r:List Int),t= .tup [.int x,.int y,.tup (r.map .int)]/\(0<=x/\x<=9)/\x<=y/\(∀k,0<=r.getD k 0/\r.getD k 0<=99)/\∀k,k+1<r.length->0<=dr r k:=by
 obtain⟨x,y,r,rfl,h1,h2,h3⟩:=lr h;refine⟨x,y,r,rfl,h1,?_,h3,?_⟩
 ·have h':(jS (.int x) (.int y)&&bY (.tup (r.map .int)))=true:=h
  rw[Bool.and_eq_true]at h'
  have hp:(aM (.int x) 1 9&&aM (.int y) x 9)=true:=h'.1;rw[Bool.and_eq_true]at hp;obtain⟨i,e,a,b⟩:=cz hp.2;cases e;exact a
 ·have h':(jS (.int x) (.int y)&&bY (.tup (r.map .int)))=true:=h
  rw[Bool.and_eq_true]at h'
  have hr:=h'.2;unfold bY at hr;rw[Bool.and_eq_true]at hr
  have hr2:(((r.map T.int).all λu=>aM u 0 99)&&(match ix (r.map .int)with | some m=>j9 m | none=>false))=true:=hr.2
  rw[Bool.and_eq_true,iX]at hr2;exact λk hk=>tE hr2.2 hk
theorem vo {u:T}:∀{cs:List T} {i:Nat},u∈bC i cs->∃j c,cs[j]? =some c/\u∈xB (i+j) c
 | [],i,h=>by simp[bC]at h
 | c::cs,i,h=>by
  rw[bC,List.mem_append]at h;rcases h with h | h
  ·exact⟨0,c,rfl,h⟩
  ·obtain⟨j,d,e,hd⟩:=vo h
   exact⟨j+1,d,e,by rw[show i+(j+1)=i+1+j by omega];exact hd⟩
def rj (cs:List T)(v:N2):Int:=match cs[v.c.toNat]? with
 | some (.tup [.int x,_,.tup r])=>x*(match r[v.k.toNat]? with
  | some (.int i)=>i
  | _=>0)
 | _=>0
theorem vk {cs:List T}{j k:Nat}{x y:Int}{r:List Int}(h:cs[j]? =some (.tup [.int x,.int y,.tup (r.map .int)])):rj cs ⟨j,k⟩=x*r.getD k 0:=by
 unfold rj;rw[show((⟨(j:Int),(k:Int)⟩:N2).c).toNat=j from Int.toNat_natCast j,h]
 show x*(match(r.map T.int)[(k:Int).toNat]? with | some (.int i)=>i | _=>0)=_
 rw[Int.toNat_natCast,List.getElem?_map,List.getD_eq_getElem?_getD]
 cases r[k]? <;> rfl
theorem vj {cs:List T}(hc:∀c∈cs,aY c=true)(v:N2):0<=rj cs v/\rj cs v<=891:=by
 unfold rj
 cases q:cs[v.c.toNat]? with
 | none=>exact⟨Int.le_refl 0,by show(0:Int)<=891;decide⟩
 | some c=>
  obtain⟨x,y,r,rfl,hx,_,hr,_⟩:=lu (hc c (List.mem_of_getElem? q))
  dsimp only
  rw[List.getElem?_map]
  have key:∀z:Int,0<=z->z<=99->0<=x*z/\x*z<=891:=λz z0 z1=>⟨Int.mul_nonneg hx.1 z0,by
   have:=Int.mul_le_mul hx.2 z1 z0 (by omega)
   omega⟩
  cases e:r[v.k.toNat]? with
  | none=>exact key 0 (by omega) (by omega)
  | some z=>
   have:=hr v.k.toNat;rw[List.getD_eq_getElem?_getD,e]at this
   exact key z this.1 this.2
def Hd (cs ls:List T)(t:N2->Int):Prop:=∀x,eB x∈je cs ls->hB t x=true
theorem li {x y:N2×N2×Int}(h:eB x=eB y):x=y:=by
 obtain⟨a,b,m⟩:=x;obtain⟨a',b',m'⟩:=y;unfold eB at h
 have h':=T.tup.inj h;simp only[List.cons.injEq,T.int.injEq,and_true]at h';rw[lh h'.1,lh h'.2.1,h'.2.2]
theorem mt {cs:List T}(hc:∀c∈cs,aY c=true){x:N2×N2×Int}(h:eB x∈bC 0 cs):hB (rj cs) x=true:=by
 obtain⟨j,c,hj,hu⟩:=vo h;obtain⟨a,y,r,rfl,ha,hy,_,hd⟩:=lu (hc c (List.mem_of_getElem? hj));rw[Nat.zero_add,nZ]at hu;obtain⟨k,hk,hu⟩:=List.mem_flatMap.mp hu
 have hk:=List.mem_range.mp hk
 have hd:=hd k (by omega)
 have e1:=vk (k:=k) hj
 have e2:=vk (k:=k+1) hj
 have ed:dr r k=r.getD (k+1) 0 - r.getD k 0:=rfl;unfold pr at hu;simp only[List.mem_cons,List.not_mem_nil,or_false]at hu;rcases hu with hu | hu
 ·have:=li (y:=(⟨j,k⟩,⟨j,((k+1:Nat):Int)⟩,dr r k*y)) hu
  subst this;refine decide_eq_true ?_
  show rj cs ⟨j,((k+1:Nat):Int)⟩ - rj cs ⟨j,k⟩<=dr r k*y
  rw[e1,e2,<-Int.mul_sub,<-ed,Int.mul_comm];exact Int.mul_le_mul_of_nonneg_left hy hd
 ·have:=li (y:=(⟨j,((k+1:Nat):Int)⟩,⟨j,k⟩,-dr r k*a)) hu
  subst this;refine decide_eq_true ?_
  show rj cs ⟨j,k⟩ - rj cs ⟨j,((k+1:Nat):Int)⟩<=-dr r k*a
  rw[e1,e2,<-Int.mul_sub,ed,Int.mul_comm,Int.neg_sub];exact Int.le_refl _
section
variable {cs ls:List T}{L:bB N2}{P:List N2}
theorem Rd.hd (R:Rd cs ls L P){t:N2->Int}:L.all (hB t)=true↔Hd cs ls t:=by
 rw[List.all_eq_true];refine⟨λh x hx=> ?_,λh x hx=>h x (by rw[R.b];exact List.mem_map.mpr ⟨x,hx,rfl⟩)⟩
 rw[R.b]at hx;obtain⟨y,hy,e⟩:=List.mem_map.mp hx;rw[<-li e];exact h y hy
theorem Hd.mono {ms:List T}{t:N2->Int}(h:Hd cs ls t)(hm:∀u∈ms,u∈ls):Hd cs ms t:=λx hx=>h x (by
 unfold je at hx ⊢;rcases List.mem_append.mp hx with z | z
 ·exact List.mem_append_left _ z
 ·obtain⟨u,hu,z⟩:=List.mem_flatMap.mp z
  exact List.mem_append_right _ (List.mem_flatMap.mpr ⟨u,hm u hu,z⟩))
theorem Rd.same {ms:List T}{M:bB N2}{Q:List N2}(R:Rd cs ls L P)(S:Rd cs ms M Q):Q=P:=by
 have:P.map en=Q.map en:=by rw[<-R.e,<-S.e]
 clear R S
 induction P generalizing Q with
 | nil=>cases Q with
  | nil=>rfl
  | cons a Q=>simp at this
 | cons v P ih=>cases Q with
  | nil=>simp at this
  | cons a Q=>
   rw[List.map_cons,List.map_cons,List.cons.injEq]at this;rw[lh this.1,ih this.2]
theorem Rd.needs_letter (R:Rd cs ls L P){q:List Nat}(h:Bar L q):∃k∈q,(bC 0 cs).length<=k/\k<L.length:=by
 obtain⟨h0,⟨a,ha⟩,hc,_⟩:=h;refine Classical.byContradiction λz=> ?_
 have all:∀k∈q,k<(bC 0 cs).length:=λk hk=>by
  rcases Nat.lt_or_ge k (bC 0 cs).length with y | y
  ·exact y
  ·exact absurd ⟨k,hk,y,ha.lt k hk⟩ z
 have hh:Holds (L.take (bC 0 cs).length) (rj cs):=λu v m hm=>by
  have hx:eB (u,v,m)∈bC 0 cs:=by
   have e:(L.take (bC 0 cs).length).map eB=bC 0 cs:=by
    rw[List.map_take,<-R.b];unfold je;rw[List.take_left]
   rw[<-e];exact List.mem_map.mpr ⟨_,hm,rfl⟩
  exact of_decide_eq_true (mt (br R.g.c).1 hx)
 have wk:∀{q:List Nat} {a b:N2},(∀k∈q,k<(bC 0 cs).length)->Ch L a q b->Wk (L.take (bC 0 cs).length) a b (bQ L q):=by
  intro q
  induction q with
  | nil=>exact λ{a b} _ (e:a=b)=>by subst e;exact .nil a
  | cons k r ih=>
   intro a b hk ⟨c,m,e,hr⟩
   have:bQ L (k::r)=m+bQ L r:=by rw[bQ,most,e]
   rw[this];exact .step (List.mem_of_getElem? (i:=k) (by rw[List.getElem?_take_of_lt (hk k List.mem_cons_self),e])) (ih (λj hj=>hk j (List.mem_cons_of_mem _ hj)) hr)
 have:=hh.walk (wk all ha);omega
theorem Am {q:List Nat}{a:N2}(h0:q≠ [])(ha:Ch L a q a)(hc:bQ L q<0):jy L (.lst (eN q))=true:=by
 unfold jy;rw[fF,kW ha.lt,Bool.true_and]
 cases q with
 | nil=>exact absurd rfl h0
 | cons k r=>
  have hr:=run_ch.mpr ha
  have e:=ox hr
  show(decide (run L (fK L k) (k::r)=some (fK L k))&&decide (bQ L (k::r)<0))=true
  rw[e,decide_eq_true hr,decide_eq_true hc];rfl
theorem xJ {q:List Nat}(h:Bar L q):jy L (.lst (eN (q.drop 1++q.take 1)))=true:=by
 obtain⟨h0,⟨a,ha⟩,hc,_⟩:=h
 cases q with
 | nil=>exact absurd rfl h0
 | cons k r=>
  obtain⟨c,m,e,hr⟩:=ha
  show jy L (.lst (eN (r++ [k])))=true
  refine Am (a:=c) (by simp) (hr.snoc e) ?_
  have:bQ L (k::r)=m+bQ L r:=by rw[bQ,most,e]
  rw[gH,show bQ L [k] =m+0 by rw[bQ,most,e];rfl]
  omega
theorem An (n:gI L){t:T}:jy L t=false:=by
 cases q:jy L t with
 | false=>rfl
 | true=>
  unfold jy at q;rw[Bool.and_eq_true]at q;obtain⟨ks,rfl,_⟩:=kc q.1;rw[fF]at q
  cases ks with
  | nil=>cases q.2
  | cons k r=>
   have q2:(decide (run L (fK L k) (k::r)=some (fK L k))&&decide (bQ L (k::r)<0))=true:=q.2;rw[Bool.and_eq_true]at q2
   have c:=run_ch.mp (of_decide_eq_true q2.1)
   have:=n _ _ c.wk
   have:=of_decide_eq_true q2.2;omega
theorem Rd.bar_len (R:Rd cs ls L P){q:List Nat}(h:Bar L q):q.length<=60:=by
 obtain⟨h0,⟨a,ha⟩,hc,hn⟩:=h
 have:=Ch.len ha hn
 have:=R.ll;omega
end
theorem wb {a b c:Nat}(h1:a<=b)(h2:b<=c):rng (a:Int) (b:Int)++rng (b:Int) (c:Int)=rng (a:Int) (c:Int):=by
 unfold rng;rw[show((c:Int) - a).toNat=(b - a)+(c - b)by omega,show((b:Int) - a).toNat=b - a by omega,show((c:Int) - b).toNat=c - b by omega,List.range_add,List.map_append,List.map_map]
 refine congrArg _ (List.map_congr_left λk _=> ?_)
 show T.int ((b:Int)+k)=T.int ((a:Int)+((b - a+k:Nat):Int))
 congr 1
 omega
theorem uu {a b k:Nat}(h1:a<=k)(h2:k<b):T.int (k:Nat)∈rng (a:Int) (b:Int):=by
 unfold rng;refine List.mem_map.mpr ⟨k - a,List.mem_range.mpr (by omega),?_⟩
 congr 1
 omega
theorem oA (a b:Nat):(rng (a:Int) (b:Int)).length=b - a:=by
 unfold rng;rw[List.length_map,List.length_range];omega
theorem yD (a b:Int):∀t∈rng a b,t.pl=true:=λt h=>by
 unfold rng at h;obtain⟨k,_,rfl⟩:=List.mem_map.mp h
 rfl
theorem p0 {l:List T}(h:∀t∈l,t.pl=true):(T.lst l).pl=true:=by rw[tR];exact ir h
theorem zC (l:List T)(h:(T.lst l).pl=true):jU (.lst l) (.lst [])= .ok (.bl (!l.isEmpty)):=by
 have e:=qf l h;unfold jM at e;unfold jU
 split at e
 ·rename_i hh
  rw[if_pos hh];cases e2:aO (.lst l) (.lst []) <;> rw[e2]at e <;> cases q:l.isEmpty <;> rw[q]at e <;> first | rfl | (cases e)
 ·cases e
section
variable {cs ls:List T}{L:bB N2}{P:List N2}{ns:List Int}
def fw (cs ls:List T)(j:Nat):Nat:=(je cs (ls.take j)).length
theorem z8 {j:Nat}(h:j<ls.length):fw cs ls (j+1)=fw cs ls j+(lB ls[j]).length:=by
 unfold fw je;rw[List.take_succ_eq_append_getElem h,List.flatMap_append,List.length_append,List.length_append,List.length_append];simp;omega
abbrev OW:En->Rs Fl:=(bN (o2 aJ (vr 7) (cl cO (ac (vr 4) (ac (vr 8) ah)))) (gN 7))
theorem uc {m:Nat}(g:Good cs (ls.take m))(hm:(ls.take m).length=m)(s2 s5 s6 s9 s10 s11 s12 s13 s14 s15:Sl):∀(c j:Nat) (s8:Sl),j+c=m->∃s8',aW (gN 8) OW ((List.range' j c).map λ(k:Nat)=>T.int (k:Nat)) [.va (.scr ns),.va (.tup [.tup cs,.tup ls]),s2,.va (.int (m:Nat)),.va (.tup [.tup cs,.tup (ls.take m)]),s5,s6,.va (.lst (rng ((bC 0 cs).length:Nat) (fw cs (ls.take m) j:Nat))),s8,s9,s10,s11,s12,s13,s14,s15] = .ok (.nx [.va (.scr ns),.va (.tup [.tup cs,.tup ls]),s2,.va (.int (m:Nat)),.va (.tup [.tup cs,.tup (ls.take m)]),s5,s6,.va (.lst (rng ((bC 0 cs).length:Nat) (fw cs (ls.take m) m:Nat))),s8',s9,s10,s11,s12,s13,s14,s15]):=by
 intro c
 induction c with
 | zero=>
  intro j s8 h;refine⟨s8,?_⟩
  rw[show j=m by omega]
  rfl
 | succ c ihc=>
  intro j s8 h
  have hj:j<(ls.take m).length:=by omega
  obtain⟨a,ih⟩:=ihc (j+1) (.va (.int (j:Nat))) (by omega)
  refine⟨a,?_⟩
  have l0:(bC 0 cs).length<=fw cs (ls.take m) j:=by unfold fw je;rw[List.length_append];omega
  have l6:fw cs (ls.take m) j<=60:=km (g.take j)
  have l7:fw cs (ls.take m) (j+1)<=60:=km (g.take (j+1))
  have es:=z8 (cs:=cs) hj
  have pl:=t9 g hj;rw[show(je cs ((ls.take m).take j)).length=fw cs (ls.take m) j from rfl,<-es]at pl
  have ad:aJ (.lst (rng ((bC 0 cs).length:Nat) (fw cs (ls.take m) j:Nat))) (.lst (rng (fw cs (ls.take m) j:Nat) (fw cs (ls.take m) (j+1):Nat)))= .ok (.lst (rng ((bC 0 cs).length:Nat) (fw cs (ls.take m) (j+1):Nat))):=by rw[kn _ _ (by rw[List.length_append,oA,oA];omega),wb l0 (by omega)]
  generalize rng ((bC 0 cs).length:Nat) (fw cs (ls.take m) j:Nat)=r1 at ad ⊢
  generalize rng (fw cs (ls.take m) j:Nat) (fw cs (ls.take m) (j+1):Nat)=r2 at ad pl
  generalize rng ((bC 0 cs).length:Nat) (fw cs (ls.take m) (j+1):Nat)=r3 at ad ih
  rw[List.range'_succ,List.map_cons,dO (Z1:=[.va (.scr ns),.va (.tup [.tup cs,.tup ls]),s2,.va (.int (m:Nat)),.va (.tup [.tup cs,.tup (ls.take m)]),s5,s6,.va (.lst r1),.va (.int (j:Nat)),s9,s10,s11,s12,s13,s14,s15]) (Z2:=[.va (.scr ns),.va (.tup [.tup cs,.tup ls]),s2,.va (.int (m:Nat)),.va (.tup [.tup cs,.tup (ls.take m)]),s5,s6,.va (.lst r3),.va (.int (j:Nat)),s9,s10,s11,s12,s13,s14,s15]) rfl (bz (t:=.lst r3) (aD (t:=.lst r1) (u:=.lst r2) rfl (aQ (ts:=[(.tup [.tup cs,.tup (ls.take m)]),.int (j:Nat)]) rfl pl) ad) rfl),ih]
abbrev BD:En->Rs Fl:=(ar (bN (bq (ac (o2 aN (vr 1) (cn (.int 0))) (ac (sl (o2 aN (vr 1) (cn (.int 1))) pN (pS (vr 3))) ah))) (gN 4)) (ar (bN (cl dS (ac (vr 4) ah)) (gN 5)) (ar (bN (cl eY (ac (vr 4) ah)) (gN 6)) (ar (dL (jI (tb (o2 jM (o2 eV (vr 5) (cn .non)) (o2 eV (vr 6) (cn .non)))) (tb (o2 jU (cl dn (ac (vr 4) ah)) (o2 eV (vr 6) (cn .non))))) (aF (cn (.bl false))) sN) (ar (dL (lA (tb (o2 d6 (vr 2) (cn .non))) (cD (tb (cl dj (ac (vr 4) (ac (vr 2) ah)))))) (aF (cn (.bl false))) sN) (ar (dL (tb (o2 d6 (vr 6) (cn .non))) (ar (dL (jI (cD (tb (cl eJ (ac (vr 4) (ac (vr 6) ah))))) (tb (o2 jU (cl eJ (ac (vr 4) (ac (o2 aJ (sl (vr 6) (pS (cn (.int 1))) pN) (sl (vr 6) pN (pS (cn (.int 1))))) ah))) (cn (.bl true))))) (aF (cn (.bl false))) sN) (ar (bN (c7 ah) (gN 7)) (ar (fM (iR (ac (vr 3) ah)) (gN 8) (bN (o2 aJ (vr 7) (cl cO (ac (vr 4) (ac (vr 8) ah)))) (gN 7))) (dL (tb (o2 jM (eU (iS (vr 6)) [none,some 7] (gN 0) (tb (o2 uS (vr 0) (vr 1))) (vr 0)) (c7 ah))) (aF (cn (.bl false))) sN)))) sN) (ar (bN (vr 5) (gN 2)) (ar (bN (eU (iR (ac (cl bx (ac (cl bj (ac (vr 4) ah)) ah)) ah)) [none,some 4] (gN 0) (tb (cl eJ (ac (vr 1) (ac (c7 (ac (vr 0) ah)) ah)))) (vr 0)) (gN 9)) (dL (lA (tb (o2 d6 (vr 2) (cn .non))) (tb (o2 jU (vr 9) (c7 ah)))) (aF (cn (.bl false))) sN)))))))))
theorem BI {k:Nat}{l:List T}(hl:(T.lst l).pl=true):uS (.int (k:Nat)) (.lst l)= .ok (.bl (io (.int (k:Nat)) l)):=by
 show(if ((T.int (k:Nat)).dep<=60\/deps l<=60)/\(T.int (k:Nat)).nd=true/\(T.lst l).nd=true then _ else _)=_
 rw[if_pos ⟨.inl (by simp[T.dep]),rfl,T.pl_nd _ hl⟩]
theorem zT {l:List T}(h:l≠ []):l.isEmpty=false:=by cases l with | nil=>exact absurd rfl h | cons a l=>rfl
theorem BV (a b:Bool):jM (.bl a) (.bl b)= .ok (.bl (a == b)):=by cases a <;> cases b <;> rfl
theorem Rd.turn {m:Nat}(hm:(ls.take m).length=m)(R:Rd cs (ls.take m) L P){la:T}(hla:la= .non\/∃t,la=fG P t/\Hd cs (ls.take m) t)(s4 s5 s6 s7 s8 s9 s10 s11 s12 s13 s14 s15:Sl) :
  ∃wd a4 a5 a6 a7 a8 a9,((wd= .non/\¬ gI L)\/(∃t,wd=fG P t/\gI L/\Hd cs (ls.take m) t/\∀v∈P,t v<=0/\∃s,Wk L s v (t v))) ∧
   BD [.va (.scr ns),.va (.tup [.tup cs,.tup ls]),.va la,.va (.int (m:Nat)),s4,s5,s6,s7,s8,s9,s10,s11,s12,s13,s14,s15] = .ok (.nx [.va (.scr ns),.va (.tup [.tup cs,.tup ls]),.va wd,.va (.int (m:Nat)),a4,a5,a6,a7,a8,a9,s10,s11,s12,s13,s14,s15]):=by
 have g:=R.g;obtain⟨bt,hbt,ebt⟩:=R.barring;obtain⟨hw,eh,ih⟩:=R.hasw
 -- the world,and what bars
 obtain⟨wd,ew,hwd⟩:∃wd,dS [(.tup [.tup cs,.tup (ls.take m)])] = .ok wd/\((wd= .non/\¬ gI L)\/(∃t,wd=fG P t/\gI L/\Hd cs (ls.take m) t/\∀v∈P,t v<=0/\∃s,Wk L s v (t v))):=by
  rcases R.world with⟨n,e⟩ | ⟨n,t,b,S,hb,e⟩
  ·exact⟨_,e,.inl ⟨rfl,n⟩⟩
  ·refine⟨_,e,.inr ⟨t,rfl,n,R.hd.mp (holds_all.mpr (S.holds R.f.ends hb)),λv hv=> ?_⟩⟩
   obtain⟨w,ev⟩:=hb v hv;obtain⟨s,_,h1,h2,_⟩:=S.walk v _ _ ev;obtain⟨d,w',e',hd⟩:=S.least v hv v 0 (.nil v);rw[ev]at e';cases e';exact⟨hd,s,h2▸h1.wk⟩
 have cut:sl (o2 aN (vr 1) (cn (.int 1))) pN (pS (vr 3)) [.va (.scr ns),.va (.tup [.tup cs,.tup ls]),.va la,.va (.int (m:Nat)),s4,s5,s6,s7,s8,s9,s10,s11,s12,s13,s14,s15] = .ok (.tup (ls.take m)):=by
  rw[Bw (l:=ls) (lo:=none) (hi:=some ((m:Nat):Int)) (qb 1 rfl rfl) rfl (uJ rfl),lq]
 have st1:∀G,ar (bN (bq (ac (o2 aN (vr 1) (cn (.int 0))) (ac (sl (o2 aN (vr 1) (cn (.int 1))) pN (pS (vr 3))) ah))) (gN 4)) G [.va (.scr ns),.va (.tup [.tup cs,.tup ls]),.va la,.va (.int (m:Nat)),s4,s5,s6,s7,s8,s9,s10,s11,s12,s13,s14,s15] =G [.va (.scr ns),.va (.tup [.tup cs,.tup ls]),.va la,.va (.int (m:Nat)),.va (.tup [.tup cs,.tup (ls.take m)]),s5,s6,s7,s8,s9,s10,s11,s12,s13,s14,s15]:=λG=>ax (bz (p2 (qb 0 rfl rfl) cut) rfl)
 unfold BD;rw[st1];rw[ax (Z':=[.va (.scr ns),.va (.tup [.tup cs,.tup ls]),.va la,.va (.int (m:Nat)),.va (.tup [.tup cs,.tup (ls.take m)]),.va wd,s6,s7,s8,s9,s10,s11,s12,s13,s14,s15]) (bz (aQ (ts:=[(.tup [.tup cs,.tup (ls.take m)])]) rfl ew) rfl)];rw[ax (Z':=[.va (.scr ns),.va (.tup [.tup cs,.tup ls]),.va la,.va (.int (m:Nat)),.va (.tup [.tup cs,.tup (ls.take m)]),.va wd,.va bt,s7,s8,s9,s10,s11,s12,s13,s14,s15]) (bz (aQ (ts:=[(.tup [.tup cs,.tup (ls.take m)])]) rfl ebt) rfl)]
 have nn:(eV wd .non= .ok (.bl (!hw))/\eV bt .non= .ok (.bl hw))/\d6 bt .non= .ok (.bl (!hw)):=by
  rcases hwd with⟨rfl,n⟩ | ⟨t,rfl,n,_⟩
  ·have hf:hw=false:=by cases hw with | false=>rfl | true=>exact absurd (ih.mp rfl) n
   rcases hbt with⟨z,_⟩ | ⟨q,hq,rfl⟩
   ·exact absurd z n
   ·rw[hf];exact⟨⟨rfl,rfl⟩,rfl⟩
  ·rw[ih.mpr n]
   rcases hbt with⟨_,rfl⟩ | ⟨q,hq,_⟩
   ·exact⟨⟨rfl,rfl⟩,rfl⟩
   ·exact absurd n (Bar.neg hq)
 have c4:(jI (tb (o2 jM (o2 eV (vr 5) (cn .non)) (o2 eV (vr 6) (cn .non)))) (tb (o2 jU (cl dn (ac (vr 4) ah)) (o2 eV (vr 6) (cn .non))))) [.va (.scr ns),.va (.tup [.tup cs,.tup ls]),.va la,.va (.int (m:Nat)),.va (.tup [.tup cs,.tup (ls.take m)]),.va wd,.va bt,s7,s8,s9,s10,s11,s12,s13,s14,s15] = .ok false:=
  qP (cA ((aD (t:=.bl (!hw)) (u:=.bl hw) (aD (t:=wd) (u:=.non) rfl rfl nn.1.1) (aD (t:=bt) (u:=.non) rfl rfl nn.1.2) (BV _ _)).trans (by cases hw <;> rfl))) (cA (aD (t:=.bl hw) (u:=.bl hw) (aQ (ts:=[(.tup [.tup cs,.tup (ls.take m)])]) rfl eh) (aD (t:=bt) (u:=.non) rfl rfl nn.1.2) (yb hw)))
 rw[ax (Z':=[.va (.scr ns),.va (.tup [.tup cs,.tup ls]),.va la,.va (.int (m:Nat)),.va (.tup [.tup cs,.tup (ls.take m)]),.va wd,.va bt,s7,s8,s9,s10,s11,s12,s13,s14,s15]) ((dB c4).trans rfl)]
 have c5:(lA (tb (o2 d6 (vr 2) (cn .non))) (cD (tb (cl dj (ac (vr 4) (ac (vr 2) ah)))))) [.va (.scr ns),.va (.tup [.tup cs,.tup ls]),.va la,.va (.int (m:Nat)),.va (.tup [.tup cs,.tup (ls.take m)]),.va wd,.va bt,s7,s8,s9,s10,s11,s12,s13,s14,s15] = .ok false:=by
  rcases hla with rfl | ⟨t,rfl,ht⟩
  ·exact uN (cA (aD (t:=.non) (u:=.non) rfl rfl rfl))
  ·exact uM (cA (aD (t:=fG P t) (u:=.non) rfl rfl rfl)) (ik (k:=true) (cA (aQ (ts:=[(.tup [.tup cs,.tup (ls.take m)]),fG P t]) rfl (by rw[R.isw,R.hd.mpr ht]))))
 rw[ax (Z':=[.va (.scr ns),.va (.tup [.tup cs,.tup ls]),.va la,.va (.int (m:Nat)),.va (.tup [.tup cs,.tup (ls.take m)]),.va wd,.va bt,s7,s8,s9,s10,s11,s12,s13,s14,s15]) ((dB c5).trans rfl)]
 obtain⟨a7,a8,e6⟩:∃a7 a8,(dL (tb (o2 d6 (vr 6) (cn .non))) (ar (dL (jI (cD (tb (cl eJ (ac (vr 4) (ac (vr 6) ah))))) (tb (o2 jU (cl eJ (ac (vr 4) (ac (o2 aJ (sl (vr 6) (pS (cn (.int 1))) pN) (sl (vr 6) pN (pS (cn (.int 1))))) ah))) (cn (.bl true))))) (aF (cn (.bl false))) sN) (ar (bN (c7 ah) (gN 7)) (ar (fM (iR (ac (vr 3) ah)) (gN 8) (bN (o2 aJ (vr 7) (cl cO (ac (vr 4) (ac (vr 8) ah)))) (gN 7))) (dL (tb (o2 jM (eU (iS (vr 6)) [none,some 7] (gN 0) (tb (o2 uS (vr 0) (vr 1))) (vr 0)) (c7 ah))) (aF (cn (.bl false))) sN)))) sN) [.va (.scr ns),.va (.tup [.tup cs,.tup ls]),.va la,.va (.int (m:Nat)),.va (.tup [.tup cs,.tup (ls.take m)]),.va wd,.va bt,s7,s8,s9,s10,s11,s12,s13,s14,s15] = .ok (.nx [.va (.scr ns),.va (.tup [.tup cs,.tup ls]),.va la,.va (.int (m:Nat)),.va (.tup [.tup cs,.tup (ls.take m)]),.va wd,.va bt,a7,a8,s9,s10,s11,s12,s13,s14,s15]):=by
  rcases hbt with⟨n,rfl⟩ | ⟨q,hq,rfl⟩
  ·exact⟨s7,s8,(dB (cA (aD (t:=.non) (u:=.non) rfl rfl rfl))).trans rfl⟩
  ·have hl:=R.bar_len hq
   have pq:∀(w:List Nat),(T.lst (eN w)).pl=true:=λw=>p0 (x5 w)
   have ok1:∀l,T.lst (eN q)= .lst l->l.length<=1000:=λl e=>by cases e;rw[k6];omega
   have ok2:∀l,T.lst (eN (q.drop 1++q.take 1))= .lst l->l.length<=1000:=λl e=>by cases e;rw[k6,List.length_append,List.length_drop,List.length_take];omega
   have rot:o2 aJ (sl (vr 6) (pS (cn (.int 1))) pN) (sl (vr 6) pN (pS (cn (.int 1)))) [.va (.scr ns),.va (.tup [.tup cs,.tup ls]),.va la,.va (.int (m:Nat)),.va (.tup [.tup cs,.tup (ls.take m)]),.va wd,.va (.lst (eN q)),s7,s8,s9,s10,s11,s12,s13,s14,s15] = .ok (.lst (eN (q.drop 1++q.take 1))):=by
    refine(aD (t:=.lst ((eN q).drop 1)) (u:=.lst ((eN q).take 1)) (v6 (n:=1) rfl rfl) (vZ (n:=1) rfl rfl) (kn _ _ (by rw[List.length_append,List.length_drop,List.length_take,k6];omega))).trans ?_
    unfold eN;rw[List.map_append,List.map_drop,List.map_take]
   obtain⟨b8,el⟩:=uc (ns:=ns) g hm (.va la) (.va wd) (.va (.lst (eN q))) s9 s10 s11 s12 s13 s14 s15 m 0 s8 (by omega)
   have z0:fw cs (ls.take m) 0=(bC 0 cs).length:=by unfold fw je;simp
   rw[z0,show rng ((bC 0 cs).length:Nat) ((bC 0 cs).length:Nat)= []by unfold rng;simp,<-List.range_eq_range',<-gS]at el
   obtain⟨k,hk,k1,k2⟩:=R.needs_letter hq
   have eL_:fw cs (ls.take m) m=L.length:=by
    unfold fw;rw[List.take_take,Nat.min_self]
    have:=congrArg List.length R.b
    rwa [List.length_map]at this
   generalize hown:rng ((bC 0 cs).length:Nat) (fw cs (ls.take m) m:Nat)=own at el
   have po:(T.lst own).pl=true:=by rw[<-hown];exact p0 (yD _ _)
   refine⟨.va (.lst own),b8,(fQ (cA (aD (t:=.lst (eN q)) (u:=.non) rfl rfl rfl))).trans ?_⟩
   refine(ax (Z':=[.va (.scr ns),.va (.tup [.tup cs,.tup ls]),.va la,.va (.int (m:Nat)),.va (.tup [.tup cs,.tup (ls.take m)]),.va wd,.va (.lst (eN q)),s7,s8,s9,s10,s11,s12,s13,s14,s15]) ((dB (qP (ik (k:=true) (cA (aQ (ts:=[(.tup [.tup cs,.tup (ls.take m)]),.lst (eN q)]) rfl (by rw[R.bars (pq q) ok1,Ao hq])))) (cA (aD (t:=.bl true) (u:=.bl true) (aQ (ts:=[(.tup [.tup cs,.tup (ls.take m)]),.lst (eN (q.drop 1++q.take 1))]) (ap rfl (ap rot rfl)) (by rw[R.bars (pq _) ok2,xJ hq])) rfl (yb true))))).trans rfl)).trans ?_
   refine(ax (Z':=[.va (.scr ns),.va (.tup [.tup cs,.tup ls]),.va la,.va (.int (m:Nat)),.va (.tup [.tup cs,.tup (ls.take m)]),.va wd,.va (.lst (eN q)),.va (.lst []),s8,s9,s10,s11,s12,s13,s14,s15]) (bz (gC rfl (az (k:=1) (by simp))) rfl)).trans ?_
   refine(ax (fR (xo (j:=(m:Nat)) rfl (by omega) (by have:=g.n;omega)) el)).trans ?_
   have lc:(eU (iS (vr 6)) [none,some 7] (gN 0) (tb (o2 uS (vr 0) (vr 1))) (vr 0)) [.va (.scr ns),.va (.tup [.tup cs,.tup ls]),.va la,.va (.int (m:Nat)),.va (.tup [.tup cs,.tup (ls.take m)]),.va wd,.va (.lst (eN q)),.va (.lst own),b8,s9,s10,s11,s12,s13,s14,s15] = .ok (.lst (((eN q).filter λt=>io t own).map id)):=
    yf (ts:=eN q) (i8 rfl) (az (k:=60) (by rw[k6];exact hl)) (by simp) λt ht=>by
     obtain⟨j,hj,rfl⟩:=List.mem_map.mp ht;exact⟨cA (aD (t:=.int (j:Nat)) (u:=.lst own) rfl rfl (BI po)),λ_=>rfl⟩
   rw[List.map_id]at lc
   have ne:((eN q).filter λt=>io t own)≠ []:=λz=>by
    have:T.int (k:Nat)∈(eN q).filter λt=>io t own:=List.mem_filter.mpr ⟨List.mem_map.mpr ⟨k,hk,rfl⟩,List.any_eq_true.mpr ⟨.int (k:Nat),by rw[<-hown,eL_];exact uu k1 k2,by simp[aO]⟩⟩
    rw[z]at this;cases this
   exact(dB (cA ((aD (u:=.lst []) lc (gC rfl (az (k:=1) (by simp))) (qf _ (p0 λt ht=>x5 q t (List.mem_filter.mp ht).1))).trans (by rw[zT ne])))).trans rfl
 rw[ax e6];rw[ax (Z':=[.va (.scr ns),.va (.tup [.tup cs,.tup ls]),.va wd,.va (.int (m:Nat)),.va (.tup [.tup cs,.tup (ls.take m)]),.va wd,.va bt,a7,a8,s9,s10,s11,s12,s13,s14,s15]) (bz rfl rfl)]
 have ll:=R.ll
 have lc9:(eU (iR (ac (cl bx (ac (cl bj (ac (vr 4) ah)) ah)) ah)) [none,some 4] (gN 0) (tb (cl eJ (ac (vr 1) (ac (c7 (ac (vr 0) ah)) ah)))) (vr 0)) [.va (.scr ns),.va (.tup [.tup cs,.tup ls]),.va wd,.va (.int (m:Nat)),.va (.tup [.tup cs,.tup (ls.take m)]),.va wd,.va bt,a7,a8,s9,s10,s11,s12,s13,s14,s15] = .ok (.lst (((rng 0 (L.length:Nat)).filter λt=>jy L (.lst [t])).map id)):=
  yf (ts:=rng 0 (L.length:Nat)) (xo (j:=(L.length:Nat)) (ap (aQ (ts:=[eL L]) (ap (aQ (ts:=[(.tup [.tup cs,.tup (ls.take m)])]) rfl R.bounds) rfl) (by show Rs.ok (T.int ((L.map eB).length:Nat))=_;rw[List.length_map])) rfl) (by omega) (by omega)) (az (k:=60) (by rw[gU];exact ll)) (by simp) λt ht=>by
   obtain⟨j,rfl,_⟩:=j8 ht;exact⟨cA (aQ (ts:=[(.tup [.tup cs,.tup (ls.take m)]),.lst [.int (j:Nat)]]) (ap rfl (ap (gC rfl (az (k:=1) (by simp))) rfl)) (R.bars rfl λl e=>by cases e;simp)),λ_=>rfl⟩
 rw[List.map_id]at lc9
 generalize hal:((rng 0 (L.length:Nat)).filter λt=>jy L (.lst [t]))=al at lc9
 rw[ax (Z':=[.va (.scr ns),.va (.tup [.tup cs,.tup ls]),.va wd,.va (.int (m:Nat)),.va (.tup [.tup cs,.tup (ls.take m)]),.va wd,.va bt,a7,a8,.va (.lst al),s10,s11,s12,s13,s14,s15]) (bz lc9 rfl)];refine⟨wd,.va (.tup [.tup cs,.tup (ls.take m)]),.va wd,.va bt,a7,a8,.va (.lst al),hwd,(dB ?_).trans rfl⟩
 rcases hwd with⟨rfl,n⟩ | ⟨t,rfl,n,_⟩
 ·exact uN (cA (aD (t:=.non) (u:=.non) rfl rfl rfl))
 ·have e:al= []:=by rw[<-hal];exact List.filter_eq_nil_iff.mpr λt _=>by rw[An n];decide
  subst e;exact uM (cA (aD (t:=fG P t) (u:=.non) rfl rfl rfl)) (cA (aD (t:=.lst []) (u:=.lst []) rfl (gC rfl (az (k:=1) (by simp))) (zC [] rfl)))
end
theorem oG (l:List Nat)(n:Nat)(h:l=List.range (n+1)):l.reverse.map (λ(k:Nat)=>T.int (k:Nat))=T.int (n:Nat)::((List.range n).reverse.map λ(k:Nat)=>T.int (k:Nat)):=by
 rw[h,List.range_succ,List.reverse_append]
 rfl
theorem ul {D:Bool}:∀{l:List T},(∀t∈l,t.nk D=true)->nks D l=true
 | [],_=>rfl
 | t::l,h=>by unfold nks;rw[h t List.mem_cons_self,ul λu hu=>h u (List.mem_cons_of_mem _ hu)];rfl
section
variable {cs ls:List T}{P:List N2}{ns:List Int}
theorem down {L0:bB N2}(g:Good cs ls)(R0:Rd cs ls L0 P)(s10 s11 s12 s13 s14 s15:Sl):∀(m:Nat),m<=ls.length->∀(la:T) (s3 s4 s5 s6 s7 s8 s9:Sl),(la= .non\/∃t,la=fG P t/\Hd cs (ls.take m) t) →
  ∃t a3 a4 a5 a6 a7 a8 a9,Hd cs [] t/\(∀v∈P,-891<=t v/\t v<=0)/\aW (gN 3) BD ((List.range (m+1)).reverse.map λ(k:Nat)=>T.int (k:Nat)) [.va (.scr ns),.va (.tup [.tup cs,.tup ls]),.va la,s3,s4,s5,s6,s7,s8,s9,s10,s11,s12,s13,s14,s15] = .ok (.nx [.va (.scr ns),.va (.tup [.tup cs,.tup ls]),.va (fG P t),a3,a4,a5,a6,a7,a8,a9,s10,s11,s12,s13,s14,s15]):=by
 have one:∀m,m<=ls.length->∃L,Rd cs (ls.take m) L P:=λm _=>by
  obtain⟨L,Q,S⟩:=lX (g.take m)
  have e:=R0.same S;subst e;exact⟨L,S⟩
 intro m
 induction m with
 | zero=>
  intro hm la s3 s4 s5 s6 s7 s8 s9 hla;obtain⟨L,R⟩:=one 0 hm;obtain⟨wd,a4,a5,a6,a7,a8,a9,hwd,e⟩:=R.turn (ns:=ns) (by simp) hla s4 s5 s6 s7 s8 s9 s10 s11 s12 s13 s14 s15
  have hh:Holds L (rj cs):=λu v k hk=>of_decide_eq_true (p:=rj cs v - rj cs u<=k) (mt (x:=(u,v,k)) (br g.c).1 (by
   have:eB (u,v,k)∈je cs (ls.take 0):=by rw[R.b];exact List.mem_map.mpr ⟨_,hk,rfl⟩
   rw[List.take_zero]at this;unfold je at this
   simpa using this))
  rcases hwd with⟨_,n⟩ | ⟨t,rfl,n,ht,hv⟩
  ·exact absurd hh.noNeg n
  ·refine⟨t,.va (.int ((0:Nat):Int)),a4,a5,a6,a7,a8,a9,by rw[List.take_zero]at ht;exact ht,λv hv'=>⟨?_,(hv v hv').1⟩,?_⟩
   ·obtain⟨_,s,w⟩:=hv v hv'
    have:=hh.walk w
    have h1:=vj (br g.c).1 v
    have h2:=vj (br g.c).1 s;omega
   ·rw[oG _ 0 rfl,dO (Z1:=[.va (.scr ns),.va (.tup [.tup cs,.tup ls]),.va la,.va (.int ((0:Nat):Int)),s4,s5,s6,s7,s8,s9,s10,s11,s12,s13,s14,s15]) rfl e]
    rfl
 | succ m ih=>
  intro hm la s3 s4 s5 s6 s7 s8 s9 hla;obtain⟨L,R⟩:=one (m+1) hm;obtain⟨wd,a4,a5,a6,a7,a8,a9,hwd,e⟩:=R.turn (ns:=ns) (by rw[List.length_take];omega) hla s4 s5 s6 s7 s8 s9 s10 s11 s12 s13 s14 s15
  obtain⟨t,b3,b4,b5,b6,b7,b8,b9,h1,h2,h3⟩:=ih (by omega) wd (.va (.int ((m+1:Nat):Int))) a4 a5 a6 a7 a8 a9 (by
   rcases hwd with⟨rfl,_⟩ | ⟨t,rfl,_,ht,_⟩
   ·exact .inl rfl
   ·exact .inr ⟨t,rfl,ht.mono λu hu=>by rw[List.take_succ];exact List.mem_append_left _ hu⟩)
  refine⟨t,b3,b4,b5,b6,b7,b8,b9,h1,h2,?_⟩
  rw[oG _ (m+1) rfl,dO (Z1:=[.va (.scr ns),.va (.tup [.tup cs,.tup ls]),.va la,.va (.int ((m+1:Nat):Int)),s4,s5,s6,s7,s8,s9,s10,s11,s12,s13,s14,s15]) rfl e];exact h3
def sH (cs:List T)(t:N2->Int)(acc:List T):Prop:=∀u∈acc,bc cs u=true/\(u.pl=true/\∀D,u.nk D=true)/\∀x,eB x∈lB u->hB t x=true
abbrev W6:En->Rs Fl:=(ar (bN (cl au (ac (vr 0) (ac (o2 aJ (cn (.int 80)) (o2 bL (cn (.int 2)) (vr 12))) (ac (cl bx (ac (vr 10) ah)) ah)))) (gN 13)) (ar (bN (o2 hY (o2 aJ (o2 aJ (vr 13) (cn (.int 1))) (cl au (ac (vr 0) (ac (o2 aJ (cn (.int 81)) (o2 bL (cn (.int 2)) (vr 12))) (ac (o2 eF (cl bx (ac (vr 10) ah)) (cn (.int 1))) ah))))) (cl bx (ac (vr 10) ah))) (gN 14)) (ar (bN (o2 eF (o2 aN (vr 2) (vr 14)) (o2 aN (vr 2) (vr 13))) (gN 15)) (dL (tb (o2 Ci (vr 15) (cn (.int 0)))) (jR 11 (bq (ac (o2 aN (vr 10) (vr 13)) (ac (o2 aN (vr 10) (vr 14)) (ac (vr 15) (ac (vr 15) ah)))))) sN))))
theorem Ay {L:bB N2}(R:Rd cs ls L P)(hn:ns.length<=63){t:N2->Int}(hb:∀v∈P,-891<=t v/\t v<=0)(h2:2<=P.length)(k:Nat){acc:List T}(ha:sH cs t acc)(hl:acc.length<=900)(a3 a4 a5 a6 a7 a8 a9 s13 s14 s15:Sl) :
  ∃acc' b13 b14 b15,sH cs t acc'/\acc'.length<=acc.length+1/\W6 [.va (.scr ns),.va (.tup [.tup cs,.tup ls]),.va (fG P t),a3,a4,a5,a6,a7,a8,a9,.va (eS P),.ow (.lst acc),.va (.int (k:Nat)),s13,s14,s15] = .ok (.nx [.va (.scr ns),.va (.tup [.tup cs,.tup ls]),.va (fG P t),a3,a4,a5,a6,a7,a8,a9,.va (eS P),(.ow (.lst acc')),.va (.int (k:Nat)),b13,b14,b15]):=by
 have lenP:∀s13 s14 s15,cl bx (ac (vr 10) ah) [.va (.scr ns),.va (.tup [.tup cs,.tup ls]),.va (fG P t),a3,a4,a5,a6,a7,a8,a9,.va (eS P),.ow (.lst acc),.va (.int (k:Nat)),s13,s14,s15] = .ok (.int (P.length:Nat)):=λ_ _ _=>aQ (ts:=[eS P]) rfl (by show Rs.ok (T.int ((P.map en).length:Nat))=_;rw[List.length_map])
 have num:∀(J:Int) (j:Nat) s13 s14 s15,J=(j:Nat)->o2 aJ (cn (.int J)) (o2 bL (cn (.int 2)) (vr 12)) [.va (.scr ns),.va (.tup [.tup cs,.tup ls]),.va (fG P t),a3,a4,a5,a6,a7,a8,a9,.va (eS P),.ow (.lst acc),.va (.int (k:Nat)),s13,s14,s15] = .ok (.int ((j+2*k:Nat):Int)):=λJ j _ _ _ hJ=>by
  subst hJ;exact aD (t:=.int (j:Nat)) (u:=.int (2*(k:Int))) rfl (aD (t:=.int 2) (u:=.int (k:Nat)) rfl rfl (jJ (by omega) (by omega))) rfl
 obtain⟨d1,e1,p1,q1⟩:=cM ns (80+2*k) (P.length:Int) hn (by omega)
 obtain⟨d2,e2,p2',q2⟩:=cM ns (81+2*k) ((P.length:Int) - 1) hn (by omega)
 obtain⟨i,rfl⟩:=Int.eq_ofNat_of_zero_le p1;obtain⟨d,rfl⟩:=Int.eq_ofNat_of_zero_le p2'
 have hi:i<P.length:=by omega
 have hj:(i+1+d) % P.length<P.length:=Nat.mod_lt _ (by omega)
 have hij:i≠(i+1+d) % P.length:=by
  rcases Nat.lt_or_ge (i+1+d) P.length with q | q
  ·rw[Nat.mod_eq_of_lt q];omega
  ·have:(i+1+d) % P.length=i+1+d - P.length:=by
    rw[Nat.mod_eq_sub_mod q,Nat.mod_eq_of_lt (by omega)]
   rw[this];omega
 generalize hjj:(i+1+d) % P.length=j at hj hij
 unfold W6;rw[ax (Z':=[.va (.scr ns),.va (.tup [.tup cs,.tup ls]),.va (fG P t),a3,a4,a5,a6,a7,a8,a9,.va (eS P),.ow (.lst acc),.va (.int (k:Nat)),.va (.int (i:Nat)),s14,s15]) (bz (aQ (ts:=[.scr ns,.int ((80+2*k:Nat):Int),.int (P.length:Nat)]) (ap rfl (ap (num 80 80 _ _ _ rfl) (ap (lenP _ _ _) rfl))) e1) rfl)];rw[ax (Z':=[.va (.scr ns),.va (.tup [.tup cs,.tup ls]),.va (fG P t),a3,a4,a5,a6,a7,a8,a9,.va (eS P),.ow (.lst acc),.va (.int (k:Nat)),.va (.int (i:Nat)),.va (.int (j:Nat)),s15]) (bz (t:=.int (j:Nat)) (aD (t:=.int ((i:Int)+1+d)) (u:=.int (P.length:Nat)) (aD (t:=.int ((i:Int)+1)) (u:=.int (d:Nat)) (aD (t:=.int (i:Nat)) (u:=.int 1) rfl rfl rfl) (aQ (ts:=[.scr ns,.int ((81+2*k:Nat):Int),.int ((P.length:Int) - 1)]) (ap rfl (ap (num 81 81 _ _ _ rfl) (ap (aD (t:=.int (P.length:Nat)) (u:=.int 1) (lenP _ _ _) rfl rfl) rfl))) e2) rfl) (lenP _ _ _) (by rw[gA (by omega),<-hjj];rfl)) rfl)]
 have hu:=List.getElem_mem hi
 have hv:=List.getElem_mem hj
 have gi:(P.map λv=>T.int (t v))[i]? =some (.int (t P[i])):=by rw[List.getElem?_map,List.getElem?_eq_getElem hi];rfl
 have gj:(P.map λv=>T.int (t v))[j]? =some (.int (t P[j])):=by rw[List.getElem?_map,List.getElem?_eq_getElem hj];rfl
 have ei:(P.map en)[i]? =some (en P[i]):=by rw[List.getElem?_map,List.getElem?_eq_getElem hi];rfl
 have ej:(P.map en)[j]? =some (en P[j]):=by rw[List.getElem?_map,List.getElem?_eq_getElem hj];rfl
 have ne:P[i] ≠P[j]:=by
  rcases Nat.lt_or_gt_of_ne hij with z | z
  ·exact List.pairwise_iff_getElem.mp R.nd i j hi hj z
  ·exact λy=>List.pairwise_iff_getElem.mp R.nd j i hj hi z y.symm
 generalize P[i] =u at hu gi ei ne
 generalize P[j] =v at hv gj ej ne
 have bu:=hb u hu
 have bv:=hb v hv;rw[ax (Z':=[.va (.scr ns),.va (.tup [.tup cs,.tup ls]),.va (fG P t),a3,a4,a5,a6,a7,a8,a9,.va (eS P),.ow (.lst acc),.va (.int (k:Nat)),.va (.int (i:Nat)),.va (.int (j:Nat)),.va (.int (t v - t u))]) (bz (aD (t:=.int (t v)) (u:=.int (t u)) (sd (n:=j) (l:=P.map λv=>T.int (t v)) rfl rfl gj) (sd (n:=i) (l:=P.map λv=>T.int (t v)) rfl rfl gi) rfl) rfl)]
 have cond:tb (o2 Ci (vr 15) (cn (.int 0))) [.va (.scr ns),.va (.tup [.tup cs,.tup ls]),.va (fG P t),a3,a4,a5,a6,a7,a8,a9,.va (eS P),.ow (.lst acc),.va (.int (k:Nat)),.va (.int (i:Nat)),.va (.int (j:Nat)),.va (.int (t v - t u))] = .ok (decide (0<=t v - t u)):=cA (aD (t:=.int (t v - t u)) (u:=.int 0) rfl rfl rfl)
 by_cases hf:0<=t v - t u
 ·rw[decide_eq_true hf]at cond
  refine⟨acc++ [.tup [en u,en v,.int (t v - t u),.int (t v - t u)]],_,_,_,λw hw=> ?_,by rw[List.length_append];simp,(fQ cond).trans (qR (l:=acc) (t:=.tup [en u,en v,.int (t v - t u),.int (t v - t u)]) (dA (ap (o6 (n:=i) (l:=P.map en) rfl rfl ei) (ap (o6 (n:=j) (l:=P.map en) rfl rfl ej) rfl)) (az (k:=4) (by simp))) rfl (by omega))⟩
  rcases List.mem_append.mp hw with hw | hw
  ·exact ha w hw
  ·rw[List.mem_singleton.mp hw]
   refine⟨?_,⟨by simp[T.pl,plS,en],λ_=>rfl⟩,λx hx=> ?_⟩
   ·have d1:dC (.int (t v - t u)) (.int (t v - t u))=true:=by
     show((decide (0<=t v - t u)&&decide (t v - t u<=999))&&(decide (t v - t u<=t v - t u)&&decide (t v - t u<=999)))=true
     rw[decide_eq_true hf,decide_eq_true (show t v - t u<=999 by omega),decide_eq_true (Int.le_refl _)];rfl
    have d2:=R.ev hu
    have d3:=R.ev hv
    have d4:=pc d2 d3 λz=>ne (lh z)
    unfold bc;simp only[d1,d2,d3,d4]
    rfl
   ·have hx':eB x∈ [T.tup [en v,en u,.int (-(t v - t u))],.tup [en u,en v,.int (t v - t u)]]:=hx
    simp only[List.mem_cons,List.not_mem_nil,or_false]at hx';rcases hx' with hx' | hx'
    ·have:=li (y:=(v,u,-(t v - t u))) hx'
     subst this;exact decide_eq_true (by show t u - t v<=-(t v - t u);omega)
    ·have:=li (y:=(u,v,t v - t u)) hx'
     subst this;exact decide_eq_true (by show t v - t u<=t v - t u;omega)
 ·rw[decide_eq_false hf]at cond
  exact⟨acc,_,_,_,ha,by omega,(dB cond).trans rfl⟩
theorem Br {L:bB N2}(R:Rd cs ls L P)(hn:ns.length<=63){t:N2->Int}(hb:∀v∈P,-891<=t v/\t v<=0)(h2:2<=P.length)(a3 a4 a5 a6 a7 a8 a9:Sl):∀(ks:List Nat) (acc:List T) (s12 s13 s14 s15:Sl),sH cs t acc->acc.length+ks.length<=8->∃acc' b12 b13 b14 b15,sH cs t acc'/\acc'.length<=8 ∧
  aW (gN 12) W6 (ks.map λ(k:Nat)=>T.int (k:Nat)) [.va (.scr ns),.va (.tup [.tup cs,.tup ls]),.va (fG P t),a3,a4,a5,a6,a7,a8,a9,.va (eS P),.ow (.lst acc),s12,s13,s14,s15] = .ok (.nx [.va (.scr ns),.va (.tup [.tup cs,.tup ls]),.va (fG P t),a3,a4,a5,a6,a7,a8,a9,.va (eS P),(.ow (.lst acc')),b12,b13,b14,b15]):=by
 intro ks
 induction ks with
 | nil=>exact λacc s12 s13 s14 s15 ha hl=>⟨acc,s12,s13,s14,s15,ha,by simpa using hl,rfl⟩
 | cons k ks ih=>
  intro acc s12 s13 s14 s15 ha hl;rw[List.length_cons]at hl;obtain⟨acc',b13,b14,b15,h1,h2',e⟩:=Ay (ns:=ns) R hn hb h2 k ha (by omega) a3 a4 a5 a6 a7 a8 a9 s13 s14 s15
  obtain⟨acc2,c12,c13,c14,c15,g1,g2,e2⟩:=ih acc' (.va (.int (k:Nat))) b13 b14 b15 h1 (by omega)
  exact⟨acc2,c12,c13,c14,c15,g1,g2,by rw[List.map_cons,dO (Z1:=[.va (.scr ns),.va (.tup [.tup cs,.tup ls]),.va (fG P t),a3,a4,a5,a6,a7,a8,a9,.va (eS P),.ow (.lst acc),.va (.int (k:Nat)),s13,s14,s15]) rfl e,e2]⟩
theorem BB {f:En->Rs (List T)}{Z:En}{a:Nat}(h:f Z= .ok [.int a])(h1:a<=100):lR f Z= .ok (.lst (rng 0 a)):=by
 unfold lR;rw[h,aC];exact if_pos (by rw[nv h1,decide_eq_true (show((a:Nat):Int).toNat<=1000 by omega)];rfl)
theorem pure_law (ns:List Int)(hn:ns.length<=63):m_law [.scr ns] = .ok (.bl true):=by
 obtain⟨cs,ls,er,hc,c3,hs,hl,l6⟩:=Aa ns hn 0 6 (by omega)
 obtain⟨hR,mR⟩:=yF hc hs hl (by omega)
 have g:Good cs ls:=⟨hc,λt ht=>(hl t ht).1,by omega,yA mR⟩
 obtain⟨L,P,R⟩:=lX g
 have hpl:=R.pl;refine bw rfl ?_
 show vD [.va (.scr ns),.em,.em,.em,.em,.em,.em,.em,.em,.em,.em,.em,.em,.em,.em,.em] =_
 unfold vD;rw[ax (Z':=[.va (.scr ns),.va (.tup [.tup cs,.tup ls]),.em,.em,.em,.em,.em,.em,.em,.em,.em,.em,.em,.em,.em,.em]) (bz (aQ (ts:=[.scr ns,.int ((0:Nat):Int),.int ((6:Nat):Int)]) rfl er) rfl)];rw[ax (Z':=[.va (.scr ns),.va (.tup [.tup cs,.tup ls]),.va .non,.em,.em,.em,.em,.em,.em,.em,.em,.em,.em,.em,.em,.em]) (bz rfl rfl)];obtain⟨t,a3,a4,a5,a6,a7,a8,a9,ht,hb,e⟩:=down (ns:=ns) g R .em .em .em .em .em .em ls.length (Nat.le_refl _) .non .em .em .em .em .em .em .em (.inl rfl)
 have it:iS (o1 tF (lR (ac (o2 aJ (cl bx (ac (o2 aN (vr 1) (cn (.int 1))) ah)) (cn (.int 1))) ah))) [.va (.scr ns),.va (.tup [.tup cs,.tup ls]),.va .non,.em,.em,.em,.em,.em,.em,.em,.em,.em,.em,.em,.em,.em] = .ok ((List.range (ls.length+1)).reverse.map λ(k:Nat)=>T.int (k:Nat)):=by
  refine i8 (zN (t:=.lst (rng 0 ((ls.length+1:Nat):Int))) (BB (a:=ls.length+1) (ap (aD (t:=.int (ls.length:Nat)) (u:=.int 1) (aQ (ts:=[.tup ls]) (ap (qb 1 rfl rfl) rfl) rfl) rfl rfl) rfl) (by omega)) ?_)
  rw[gS]
  show Rs.ok (T.lst ((List.range (ls.length+1)).map λ(j:Nat)=>T.int j).reverse)=_
  rw[<-List.map_reverse]
 rw[ax (fR it e)];rw[ax (Z':=[.va (.scr ns),.va (.tup [.tup cs,.tup ls]),.va (fG P t),a3,a4,a5,a6,a7,a8,a9,.em,.em,.em,.em,.em,.em]) ((dB (cA (aD (t:=fG P t) (u:=.non) rfl rfl rfl))).trans rfl)];rw[ax (Z':=[.va (.scr ns),.va (.tup [.tup cs,.tup ls]),.va (fG P t),a3,a4,a5,a6,a7,a8,a9,.va (eS P),.em,.em,.em,.em,.em]) (bz (aQ (ts:=[(.tup [.tup cs,.tup ls])]) rfl R.events) rfl)];rw[ax (Z':=[.va (.scr ns),.va (.tup [.tup cs,.tup ls]),.va (fG P t),a3,a4,a5,a6,a7,a8,a9,.va (eS P),.ow (.lst []),.em,.em,.em,.em]) (p9 (by simp))]
 obtain⟨j0,hj0,ej0⟩:∃j0:Nat,(j0<=5/\(0<j0->2<=P.length))/\cl ut (ac (cn (.int 5)) (ac (o2 eF (cl bx (ac (vr 10) ah)) (cn (.int 1))) ah)) [.va (.scr ns),.va (.tup [.tup cs,.tup ls]),.va (fG P t),a3,a4,a5,a6,a7,a8,a9,.va (eS P),.ow (.lst []),.em,.em,.em,.em] = .ok (.int (j0:Nat)):=by
  have h0:=R.pos
  have e1:cl ut (ac (cn (.int 5)) (ac (o2 eF (cl bx (ac (vr 10) ah)) (cn (.int 1))) ah)) [.va (.scr ns),.va (.tup [.tup cs,.tup ls]),.va (fG P t),a3,a4,a5,a6,a7,a8,a9,.va (eS P),.ow (.lst []),.em,.em,.em,.em] = .ok (.int (if ((P.length:Int) - 1)<5 then(P.length:Int) - 1 else 5)):=
   aQ (ts:=[.int 5,.int ((P.length:Int) - 1)]) (ap rfl (ap (aD (t:=.int (P.length:Nat)) (u:=.int 1) (aQ (ts:=[eS P]) rfl (by show Rs.ok (T.int ((P.map en).length:Nat))=_;rw[List.length_map])) rfl rfl) rfl)) rfl
  by_cases hh:(P.length:Int) - 1<5
  ·rw[if_pos hh]at e1
   refine⟨P.length - 1,⟨by omega,λ_=>by omega⟩,?_⟩
   rw[e1,show((P.length - 1:Nat):Int)=(P.length:Int) - 1 by omega]
  ·rw[if_neg hh]at e1
   exact⟨5,⟨by omega,λ_=>by omega⟩,e1⟩
 obtain⟨acc,b12,b13,b14,b15,ha,hl8,e6⟩:∃acc b12 b13 b14 b15,sH cs t acc/\acc.length<=8/\aW (gN 12) W6 (rng 0 (j0:Nat)) [.va (.scr ns),.va (.tup [.tup cs,.tup ls]),.va (fG P t),a3,a4,a5,a6,a7,a8,a9,.va (eS P),.ow (.lst []),.em,.em,.em,.em] = .ok (.nx [.va (.scr ns),.va (.tup [.tup cs,.tup ls]),.va (fG P t),a3,a4,a5,a6,a7,a8,a9,.va (eS P),.ow (.lst acc),b12,b13,b14,b15]):=by
  rw[gS]
  by_cases hz:0<j0
  ·exact Br (ns:=ns) R hn hb (hj0.2 hz) a3 a4 a5 a6 a7 a8 a9 (List.range j0) [] .em .em .em .em (λu hu=>by cases hu) (by rw[List.length_range];simp;omega)
  ·rw[show j0=0 by omega]
   exact⟨[],.em,.em,.em,.em,λu hu=>(by cases hu),by simp,rfl⟩
 rw[ax (fR (xo (j:=(j0:Nat)) (ap ej0 rfl) (by omega) (by omega)) e6)]
 have pa:(T.tup [.tup cs,.tup acc]).pl=true:=by
  rw[gy];simp only[plS,R.g.parts.1,Bool.true_and,Bool.and_true];rw[gy];exact ir λu hu=>(ha u hu).2.1.1
 have g2:Good cs acc:=⟨hc,λu hu=>(ha u hu).1,hl8,pa⟩
 obtain⟨M,Q,S⟩:=lX g2
 have eQ:=R.same S;subst eQ
 have hd:Hd cs acc t:=λx hx=>by
  unfold je at hx;rcases List.mem_append.mp hx with hx | hx
  ·exact ht x (by unfold je;exact List.mem_append_left _ hx)
  ·obtain⟨u,hu,hx⟩:=List.mem_flatMap.mp hx
   exact(ha u hu).2.2 x hx
 refine cF (aQ (ts:=[.tup [.tup cs,.tup acc],fG Q t]) (ap (p2 (qb 0 rfl rfl) (Bz (o:=.lst acc) rfl (aQ (ts:=[.lst acc]) rfl rH) ?_)) rfl) (by rw[S.isw,S.hd.mpr hd]))
 show nks _ acc=true
 exact ul λu hu=>(ha u hu).2.1.2 _
end
end G
end
lay_quick G.lhs G.rhs
name_quick lhsz for G.lhs by G.lhs_r
name_quick rhsz for G.rhs by G.rhs_r
open PySem PySem.W PyProof.Rows
set_option maxRecDepth 100000 in
set_option maxHeartbeats 0 in
theorem G.left1 (w : World) (os : OsState) : PySem.W.Fast.lhsz w (boot_heap w.params) boot_drawn boot_toks os = PySem.W.Fast.rhsz w := by kernel_rfl
set_option maxRecDepth 100000 in
set_option maxHeartbeats 0 in
theorem PySem.Challenge.cw_farclocks_k23_whole_one_or_the_other_holds : PySem.Challenge.rw_farclocks_k23_whole_one_or_the_other.Holds := by
  w_on; o_law
  refine holds_open (q := G.vw) (loose := G.lse) (Xt := λ_ => true) (XP := λ_ _ => True) (Yf := (Tr.hookK G.asks G.top).obs) (Ya := (Tr.hookK G.asks G.top).val) (YP := (Tr.hookK G.asks G.top).says) (N := 9000) (Tr.left_of (by rfl) (by rfl) (λ_ => rfl) λw os => ?hl) (Tr.hookK G.asks G.top).of (Tr.hookK G.asks G.top).keeps (λ_ _ => trivial) (λ_ _ _ _ _ => trivial) (by rfl) (by rfl) (by rfl) (λs _ => recFacts_of (s := s) rfl) (by rfl) (by assumption) (by decide +kernel) ⟨rfl, rfl, rfl, rfl, rfl, by decide +kernel⟩ ?hw ?hc
  case hl => exact ((congrFun (congrFun (congrFun (congrFun (congrFun PySem.W.Fast.lhsz_eq w) _) _) _) os).trans (G.left1 w os)).trans (congrFun PySem.W.Fast.rhsz_eq w).symm
  case hw => w_witness2
  case hc => exact Tr.walk_k (n := 63) (k := 12) (x := "_law_script") (CX := L2.CX0) (sp := λK => Tr.spP K 1 G.m_law) rfl (by decide) rfl ⟨rfl, by decide, by decide⟩ (λw K mg fa h X e g hf => G.all_ok X e g hf) (λK H a ns hl _ hS => Tr.sp_script hS (G.pure_law ns hl)) λ_ _ _ _ z => z
