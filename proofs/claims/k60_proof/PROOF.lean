import PyProof.Rows.All
import Wide.All
import OpenK.AllK
import Wide.FinOn
import Lean
import PyProof.EqAt
import PyProof.EqKinds
import PyProof.TupleCall
import PyProof.ExcClass3
import PyProof.StationsW
import PyProof.ExcBaseAll.ValueError
import PyProof.ExcArgsOwn
import PyProof.IsiBase
import PyProof.IsiH_tuple
import PyProof.ExcAttrAll.ValueError
import PyProof.Rows.RuleN_isinstance
import PyProof.MeetsSeq
import PyProof.RulesAs
import PyProof.IsiH_list
import PyProof.AttrMiss
import KE.KDictOf
import PyProof.Rows.SumAny
import PyProof.Rows.MinMaxN
import PyProof.Rows.SortShellK
import PyProof.Rows.SortWalk
import PySem.Challenge.RW_farclocks_k60_room
set_option Elab.async false
set_option linter.all false
set_option maxRecDepth 100000
set_option maxHeartbeats 8000000
open Lean Parser Tactic Command in
macro "#" t:term:tactic=>`(tactic| exact $t)
open Lean Parser Tactic Command in
macro "&" t:term:tactic=>`(tactic| refine $t)
open Lean Parser Tactic Command in
macro "&" p:rcasesPatMed ":=" t:term:tactic=>`(tactic| obtain $p:rcasesPatMed := $t)
open Lean Parser Tactic Command in
macro "#" "," xs:(colGt ident)+ :tactic=>`(tactic| unfold $xs*)
open Lean Parser Tactic Command in
macro "&" i:declId s:declSig v:declVal:command=>`(command| theorem $i $s $v)
noncomputable section
namespace L2
open PySem PySem.Spec PyProof.Rows
abbrev Key:=Sum Int Str
def oN:Key->Value->Bool
 | .inl k,v=>Value.isInt k v
 | .inr x,v=>Value.isStrOf x v
def keyH (w:World):Key->Int
 | .inl k=>hashInt k
 | .inr x=>hashStr w x
&ck:∀ {k:Key} {v:Value},oN k v=true->(∃i t,k=Sum.inl i/\v=Value.int i t)\/(∃x t,k=Sum.inr x/\v=Value.str x t)
 | .inl i,v,h=>by
  &⟨t,e⟩:=Value.isInt_shape (k:=i) (v:=v) h
  #.inl ⟨i,t,rfl,e⟩
 | .inr x,v,h=>by
  &⟨t,e⟩:=Value.isStrOf_shape (x:=x) (v:=v) h
  #.inr ⟨x,t,rfl,e⟩
&vQ (i:Int)(t:Tok):oN (.inl i) (.int i t)=true:=by simp [oN,Value.isInt]
&vP (x:Str)(t:Tok):oN (.inr x) (.str x t)=true:=by simp [oN,Value.isStrOf]
&key_ll (a b:Int):decide ((Sum.inl a:Key)=Sum.inl b)=(a == b):=by
 by_cases e:a=b
 ·subst e;simp
 ·have h:¬ (Sum.inl a:Key)=Sum.inl b:=fun q=>e (Sum.inl.inj q)
  rw [decide_eq_false h]
  #(beq_eq_false_iff_ne.mpr e).symm
&key_rr (a b:Str):decide ((Sum.inr a:Key)=Sum.inr b)=decide (a=b):=by
 by_cases e:a=b
 ·subst e;simp
 ·have h:¬ (Sum.inr a:Key)=Sum.inr b:=fun q=>e (Sum.inr.inj q)
  rw [decide_eq_false h,decide_eq_false e]
&key_lr (a:Int)(b:Str):decide ((Sum.inl a:Key)=Sum.inr b)=false:=decide_eq_false (fun q=>nomatch q)
&key_rl (a:Str)(b:Int):decide ((Sum.inr a:Key)=Sum.inl b)=false:=decide_eq_false (fun q=>nomatch q)
def cI (prog:Program)(w:World):PySem.KeyKind prog w Key where
 is:=oN
 hash:=keyH w
 inj:=fun v a b ha hb=>by
  rcases ck ha with⟨i,t,rfl,rfl⟩ | ⟨x,t,rfl,rfl⟩
  ·rcases ck hb with⟨j,u,rfl,e⟩ | ⟨y,u,rfl,e⟩
   ·injection e with e1 _;rw [e1]
   ·#nomatch e
  ·rcases ck hb with⟨j,u,rfl,e⟩ | ⟨y,u,rfl,e⟩
   ·#nomatch e
   ·injection e with e1 _;rw [e1]
 byValue:=fun k v h=>by
  rcases ck h with⟨i,t,rfl,rfl⟩ | ⟨x,t,rfl,rfl⟩ <;> rfl
 pyHash:=fun hv h=>by
  rcases ck hv with⟨i,t,rfl,rfl⟩ | ⟨x,t,rfl,rfl⟩
  ·#wpAny_pyHash_int h
  ·#wpAny_pyHash_str h
 eqBool:=fun hu hv h=>by
  rcases ck hu with⟨i,t,rfl,rfl⟩ | ⟨x,t,rfl,rfl⟩
  ·rcases ck hv with⟨j,u,rfl,rfl⟩ | ⟨y,u,rfl,rfl⟩
   ·rw [key_ll]at h;#wpAny_eqBool_int h
   ·rw [key_lr]at h;#SeqAt.EqAt.int_str i t y u _ _ _ _ h
  ·rcases ck hv with⟨j,u,rfl,rfl⟩ | ⟨y,u,rfl,rfl⟩
   ·rw [key_rl]at h;#SeqAt.EqAt.str_int x t j u _ _ _ _ h
   ·rw [key_rr]at h;#wpAny_eqBool_str h
 «strs»:=fun k x t v h=>by
  rcases ck h with⟨i,u,rfl,e⟩ | ⟨y,u,rfl,e⟩
  ·#nomatch e
  ·injection e with e1 _
   subst e1
   cases v <;> rfl
&rO (prog:Program)(w:World)(i:Int)(t:Tok):(cI prog w).is (.inl i) (.int i t)=true:=vQ i t
&rN (prog:Program)(w:World)(x:Str)(t:Tok):(cI prog w).is (.inr x) (.str x t)=true:=vP x t
inductive V where
 | non | bl (b:Bool) | int (i:Int) | str (x:Str) | byt (b:Array UInt8) | flt (b:UInt64) | ref (a:Addr) | ty (n:String)
 deriving DecidableEq
def RelV:V->Value->Prop
 | .non,u=>u=Value.none
 | .bl b,u=>u=Value.bool b
 | .int i,u=> ∃t,u=Value.int i t
 | .str x,u=> ∃t,u=Value.str x t
 | .byt b,u=> ∃t,u=Value.bytes b t
 | .flt b,u=> ∃t,u=Value.float b t
 | .ref a,u=>u=Value.ref a
 | .ty n,u=>u=Value.type n
abbrev Vals:List V->List Value->Prop:=Paired RelV
&Vals.length {xs:List V}{us:List Value}(r:Vals xs us):xs.length=us.length:=Paired.length r
&Vals.get:∀ {xs:List V} {us:List Value} {i:Nat} {x:V},Vals xs us->xs[i]? =some x->∃ u,us[i]? =some u/\RelV x u
 | _,_,_,_,.nil,e=>by simp at e
 | _,_,0,_,.cons r _,e=>by simp at e;subst e;#⟨_,rfl,r⟩
 | _,_,i+1,x,.cons _ t,e=>by
  &⟨u,h1,h2⟩:=Vals.get (i:=i) (x:=x) t (by simpa using e)
  #⟨u,by simpa using h1,h2⟩
&Vals.append:∀ {xs ys:List V} {us ws:List Value},Vals xs us->Vals ys ws->Vals (xs++ys) (us++ws)
 | _,_,_,_,.nil,s=>s
 | _,_,_,_,.cons r t,s=> .cons r (Vals.append t s)
&Vals.take:∀ {xs:List V} {us:List Value} (n:Nat),Vals xs us->Vals (xs.take n) (us.take n)
 | _,_,0,_=> .nil
 | _,_,_+1,.nil=> .nil
 | _,_,n+1,.cons r t=> .cons r (Vals.take n t)
&Vals.drop:∀ {xs:List V} {us:List Value} (n:Nat),Vals xs us->Vals (xs.drop n) (us.drop n)
 | _,_,0,r=>r
 | _,_,_+1,.nil=> .nil
 | _,_,n+1,.cons _ t=>Vals.drop n t
def RelO:Option V->Option Value->Prop
 | some v,some u=>RelV v u
 | none,none=>True
 | _,_=>False
def KV {κ:Type}:List (κ×V)->List (κ×Value)->Prop:=Paired fun(p:κ×V) (q:κ×Value)=>p.1=q.1/\RelV p.2 q.2
def kV:Key->V
 | .inl i=> .int i
 | .inr x=> .str x
inductive HO where
 /-- a list -/
 | lst (xs:List V)
 /-- a tuple (never changes) -/
 | tup (xs:List V)
 /-- a dict whose keys are ints and texts;one whose keys are tuples of ints and texts (the empty one is both) -/
 | dK (kvs:List (Key×V)) | dT (kvs:List (List Key×V))
 /-- a set of ints: its members,its size -/
 | set (S:Int->Bool) (n:Nat)
 /-- an instance of the class at C,its dict at dx,its attributes -/
 | ins (C dx:Addr) (fs:List (Str×V))
 /-- the dict of the instance at x -/
 | own (x:Addr)
 /-- the dict of an exception -/
 | xd (fs:List (Str×V))
 /-- a bound method,f of x -/
 | met (f x:Addr)
 /-- a range object lo,lo+1,.. below hi -/
 | rng (lo hi:Int)
 /-- a thing that is known to the object (the script;a dict while a loop walks it): read,never written while it is so -/
 | frz (o:Obj) (u:HO)
 /-- a code object's table -/
 | tbl (ps:Array Value)
 /-- any other thing,by what is true of its one object (a def of one's own: SetO a S n:=HO.ext fun h=> ..) -/
 | ext (φ:Heap->Prop)
abbrev Hp:=Addr->Option HO
def upd (H:Hp)(a:Addr)(o:HO):Hp:=fun b=>if b=a then some o else H b
&aG {H:Hp}{a:Addr}{o:HO}:upd H a o a=some o:=by #,upd;rw [if_pos rfl]
&aF {H:Hp}{a b:Addr}{o:HO}(h:b≠a):upd H a o b=H b:=by #,upd;rw [if_neg h]
&pj {H:Hp}{a:Addr}{o u:HO}:upd (upd H a o) a u=upd H a u:=by
 funext b;#,upd;split <;> rfl
&kn {H:Hp}{a b:Addr}{o u:HO}(h:H a=some o)(h':H b=some u)(d:o≠u):a≠b:=by
 intro e;subst e;rw [h]at h';#d (Option.some.inj h')
&bZ {H:Hp}{a b:Addr}{o:HO}(h:H a=some o)(h':H b=none):a≠b:=by
 intro e;subst e;rw [h]at h';cases h'
section
variable (P:Program)(w:World)
def ObjOk (H:Hp)(h:Heap)(a:Addr):HO->Prop
 | .lst xs=>xs.length<=sizeLine/\∃ (its:List Value) (n:Nat),Vals xs its/\h.get? a=some { cls:=.type "list",data:=.seq its.toArray n }
 | .tup xs=>xs.length<=sizeLine/\∃ its:List Value,Vals xs its/\IsTup h a its.toArray
 | .dK kvs=>kvs.length<=sizeLine/\(a == sysModules)=false/\∃ vs,KV kvs vs/\h.DictOf (cI P w) a vs
 | .dT kvs=>kvs.length<=sizeLine/\(a == sysModules)=false/\∃ xs:List (List Key×Addr×Value),
   Paired (fun(p:List Key×V) (q:List Key×Addr×Value)=>p.1=q.1/\H q.2.1=some (.tup (p.1.map kV))/\RelV p.2 q.2.2) kvs xs ∧
   ∃o es ep,h.get? a=some o/\o.ExactDict/\o.data= .dict es ep/\es.toList=xs.map (entryOfKey (tupleKind (cI P w)))/\(xs.map (·.1)).Nodup
 | .set S n=>h.SetOf (intKind P w) a S n
 | .ins C dx fs=>H dx=some (.own a)/\fs.length<=1000/\dx≠a/\h.get? a=some (PySem.W.instObj C dx) ∧
   ∃mA,h.Ns1 dx mA/\(∀f,RelO (fs.lookup f) (mA f))/\PySem.Within mA (fs.map (·.1))
 | .own _=> ∃o,h.get? a=some o
 | .xd fs=> ∃mA,h.Ns1 a mA/\∀ f,RelO (fs.lookup f) (mA f)
 | .rng lo hi=> ∃t u v,h.get? a=some { cls:=.type "range",data:=.fields #[.int lo t,.int hi u,.int 1 v] }
 | .frz o u=>h.get? a=some o/\ObjOk H h a u
 | .tbl ps=>h.get? a=some { cls:=.none,data:=.fields ps }
 | .met f x=>h.get? a=some (PySem.W.methodObj (.ref f) (.ref x))
 | .ext φ=>φ h/\(∃o,h.get? a=some o)/\∀ h1 h2:Heap,φ h1->(∀o,h1.get? a=some o->h2.get? a=some o)->φ h2
def HOk (H:Hp)(h:Heap):Prop:=∀ a o,H a=some o->ObjOk P w H h a o
end
section
variable {P:Program}{w:World}{H H':Hp}{h h':Heap}{a:Addr}{o:HO}
&ObjOk.lt (x:ObjOk P w H h a o):a<h.objs.size:=by
 cases o with
 | lst xs=>&⟨_,_,_,_,e⟩:=x;#Heap.lt_size e
 | tup xs=>&⟨_,_,_,p⟩:=x;#p.lt
 | dK kvs=>&⟨_,_,_,_,o,_,_,e,_⟩:=x;#Heap.lt_size e
 | dT kvs=>&⟨_,_,_,_,o,_,_,e,_⟩:=x;#Heap.lt_size e
 | set S n=>&⟨o,_,_,_,e,_⟩:=x;#Heap.lt_size e
 | ins C dx fs=>&⟨_,_,_,e,_⟩:=x;#Heap.lt_size e
 | own y=>&⟨_,e⟩:=x;#Heap.lt_size e
 | xd fs=>&⟨_,⟨_,_,_,e,_⟩,_⟩:=x;#Heap.lt_size e
 | rng lo hi=>&⟨_,_,_,e⟩:=x;#Heap.lt_size e
 | frz ob u=>&⟨e,_⟩:=x;#Heap.lt_size e
 | tbl ps=>#Heap.lt_size (show h.get? a=some _ from x)
 | met f y=>#Heap.lt_size (show h.get? a=some _ from x)
 | ext φ=>&⟨_,⟨_,e⟩,_⟩:=x;#Heap.lt_size e
&Paired.mapP {α β:Type}{F G:α->β->Prop}:∀ {l₁:List α} {l₂:List β},Paired F l₁ l₂->(∀a b,F a b->G a b)->Paired G l₁ l₂
 | _,_,.nil,_=> .nil
 | _,_,.cons r t,f=> .cons (f _ _ r) (Paired.mapP t f)
&ObjOk.stay (x:ObjOk P w H h a o)(k:∀ b u,(b=a\/H b=some (.own a))->h.get? b=some u->h'.get? b=some u)
  (ho:∀ b,H b=some (.own a)->H' b=some (.own a)) (ht:∀ b xs,H b=some (.tup xs)->H' b=some (.tup xs)):ObjOk P w H' h' a o:=by
 induction o with
 | lst xs=>&⟨z,its,n,r,e⟩:=x;#⟨z,its,n,r,k _ _ (.inl rfl) e⟩
 | tup xs=>&⟨z,its,r,ob,e,c⟩:=x;#⟨z,its,r,ob,k _ _ (.inl rfl) e,c⟩
 | dK kvs=>&⟨z,y,vs,r,ob,es,ep,e,c⟩:=x;#⟨z,y,vs,r,ob,es,ep,k _ _ (.inl rfl) e,c⟩
 | dT kvs=>
  &⟨z,y,xs,r,ob,es,ep,e,c⟩:=x
  #⟨z,y,xs,Paired.mapP r fun p q z=>⟨z.1,ht _ _ z.2.1,z.2.2⟩,ob,es,ep,k _ _ (.inl rfl) e,c⟩
 | set S n=>&⟨ob,es,ep,t,e,c⟩:=x;#⟨ob,es,ep,t,k _ _ (.inl rfl) e,c⟩
 | ins C dx fs=>
  &⟨d,z,ne,e,mA,⟨od,es,ep,e2,c⟩,r⟩:=x
  #⟨ho _ d,z,ne,k _ _ (.inl rfl) e,mA,⟨od,es,ep,k _ _ (.inr d) e2,c⟩,r⟩
 | own y=>&⟨ob,e⟩:=x;#⟨ob,k _ _ (.inl rfl) e⟩
 | xd fs=>&⟨mA,⟨od,es,ep,e,c⟩,r⟩:=x;#⟨mA,⟨od,es,ep,k _ _ (.inl rfl) e,c⟩,r⟩
 | rng lo hi=>&⟨t,u,v,e⟩:=x;#⟨t,u,v,k _ _ (.inl rfl) e⟩
 | frz ob u ih=>&⟨e,q⟩:=x;#⟨k _ _ (.inl rfl) e,ih q⟩
 | tbl ps=>
  have e:h.get? a=some { cls:=.none,data:=.fields ps }:=x
  show h'.get? a=some { cls:=.none,data:=.fields ps }
  #k a _ (.inl rfl) e
 | met f y=>
  have e:h.get? a=some (PySem.W.methodObj (.ref f) (.ref y)):=x
  show h'.get? a=some (PySem.W.methodObj (.ref f) (.ref y))
  #k a _ (.inl rfl) e
 | ext φ=>&⟨p,⟨o,e⟩,st⟩:=x;#⟨st _ _ p fun o q=>k _ _ (.inl rfl) q,⟨o,k _ _ (.inl rfl) e⟩,st⟩
&HOk.lt (x:HOk P w H h)(e:H a=some o):a<h.objs.size:=(x a o e).lt
&HOk.fresh (x:HOk P w H h)(e:h.objs.size<=a):H a=none:=by
 cases q:H a with
 | none=>rfl
 | some u=>#absurd (Nat.lt_of_lt_of_le (x.lt q) e) (Nat.lt_irrefl _)
&HOk.kept (x:HOk P w H h)(k:∀ b u,h.get? b=some u->h'.get? b=some u):HOk P w H h':=fun a o e=>
 (x a o e).stay (fun b u _ q=>k b u q) (fun _ q=>q) fun _ _ q=>q
&HOk.laid (x:HOk P w H h)(k:∀ b u,h.get? b=some u->h'.get? b=some u)(hp:h.objs.size<=a)(new:ObjOk P w (upd H a o) h' a o):HOk P w (upd H a o) h':=fun b u e=>by
 have hn:=x.fresh hp
 by_cases hb:b=a
 ·subst hb;rw [aG]at e;cases e;#new
 ·rw [aF hb]at e
  #(x b u e).stay (fun c v _ q=>k c v q) (fun c q=>by rw [aF (bZ q hn)];#q) fun c xs q=>by rw [aF (bZ q hn)];#q
end
def Rd (H:Hp)(a:Addr)(u:HO):Prop:=H a=some u\/∃ o,H a=some (.frz o u)
&Rd.ok {P:Program}{w:World}{H:Hp}{h:Heap}{a:Addr}{u:HO}(r:Rd H a u)(x:HOk P w H h):ObjOk P w H h a u:=by
 rcases r with r | ⟨o,r⟩
 ·#x a u r
 ·&⟨_,q⟩:=x a _ r
  #q
def Mut:Option HO->Prop
 | some (.lst _)=>True
 | some (.dK _)=>True
 | some (.dT _)=>True
 | some (.set _ _)=>True
 | some (.ins _ _ _)=>True
 | some (.ext _)=>True
 | _=>False
section
variable {P:Program}{w:World}{H:Hp}{h h':Heap}{x e:Addr}{o':HO}
&HOk.write (ok:HOk P w H h)(mu:Mut (H x))(he:e=x\/H e=some (.own x))(k:∀ b u,b≠e->h.get? b=some u->h'.get? b=some u)(heo:∃ u,h'.get? e=some u)
  (new:ObjOk P w (upd H x o') h' x o'):HOk P w (upd H x o') h':=fun b u q=>by
 have nown:∀ c y,H c=some (.own y)->c≠x:=fun c y r z=>by subst z;rw [r]at mu;#mu
 have ntup:∀ c xs,H c=some (.tup xs)->c≠x:=fun c xs r z=>by subst z;rw [r]at mu;#mu
 by_cases hb:b=x
 ·subst hb;rw [aG]at q;cases q;#new
 ·rw [aF hb]at q
  by_cases hbe:b=e
  ·have q':H b=some (.own x):=by
    rcases he with z | z
    ·#absurd (hbe.trans z) hb
    ·rw [hbe];#z
   rw [q]at q';cases q'
   &⟨v,hv⟩:=heo
   #⟨v,by rw [hbe];#hv⟩
  ·&(ok b u q).stay (fun c v hc r=>k c v ?_ r) (fun c r=>by rw [aF (nown c b r)];#r) fun c xs r=>by rw [aF (ntup c xs r)];#r
   rcases hc with rfl | hc
   ·#hbe
   ·rintro rfl
    rcases he with z | z
    ·#nown c b hc z
    ·rw [hc]at z;cases z;#hb rfl
end
structure Un (fs ex:List Addr)(H H':Hp)(h h':Heap):Prop where
 keep:∀ b o,h.get? b=some o->H b=none->b∉fs->b∉ex->h'.get? b=some o
 slot:∀ b o,h.get? b=some o->H b=none->b∈fs->b∉ex->∃ sl,h'.get? b=some { o with slots:=sl }
 free:∀ b o,h.get? b=some o->H b=none->b∉ex->H' b=none
 there:∀ b o,h.get? b=some o->b∉ex->∃ o',h'.get? b=some o'
 tups:∀ b xs,H b=some (.tup xs)->H' b=some (.tup xs)
 frzs:∀ b o u,H b=some (.frz o u)->H' b=some (.frz o u)
 tbls:∀ b ps,H b=some (.tbl ps)->∃ more,H' b=some (.tbl (ps++more))
section
variable {fs fs' ex ex':List Addr}{H H1 H2:Hp}{h h1 h2 h':Heap}{a x e:Addr}{o:HO}
&Un.any (u:Un fs ex H H1 h h1){b:Addr}{ob:Obj}(q:h.get? b=some ob)(n:H b=none)(hx:b∉ex):∃ sl,h1.get? b=some { ob with slots:=sl }:=by
 by_cases hb:b∈fs
 ·#u.slot b ob q n hb hx
 ·#⟨ob.slots,u.keep b ob q n hb hx⟩
&Un.kept (k:∀ b u,h.get? b=some u->h'.get? b=some u):Un fs ex H H h h':=
 ⟨fun b ob q _ _ _=>k b ob q,fun b ob q _ _ _=>⟨ob.slots,k b ob q⟩,fun _ _ _ n _=>n,fun b ob q _=>⟨ob,k b ob q⟩,fun _ _ q=>q,fun _ _ _ q=>q,fun _ ps q=>⟨#[],by rw [q];simp⟩⟩
&Un.refl:Un fs ex H H h h:=Un.kept fun _ _ q=>q
&Un.laid (k:∀ b u,h.get? b=some u->h'.get? b=some u)(hp:h.objs.size<=a)(hn:H a=none):Un fs ex H (upd H a o) h h' where
 keep:=fun b u q _ _ _=>k b u q
 slot:=fun b u q _ _ _=>⟨u.slots,k b u q⟩
 free:=fun b u q n _=>by rw [aF (Nat.ne_of_lt (Nat.lt_of_lt_of_le (Heap.lt_size q) hp))];#n
 there:=fun b u q _=>⟨u,k b u q⟩
 tups:=fun b xs q=>by rw [aF (bZ q hn)];#q
 frzs:=fun b u xs q=>by rw [aF (bZ q hn)];#q
 tbls:=fun b ps q=>⟨#[],by rw [aF (bZ q hn),q];simp⟩
&Un.write (mu:Mut (H x))(he:e=x\/H e=some (.own x))(k:∀ b u,b≠e->h.get? b=some u->h'.get? b=some u)(heo:∃ u,h'.get? e=some u):Un fs ex H (upd H x o) h h':=by
 have hx:∀ b,H b=none->b≠x:=fun b n z=>by subst z;rw [n]at mu;#mu
 have hb:∀ b,H b=none->b≠e:=fun b n z=>by
  subst z
  rcases he with r | r
  ·#hx b n r
  ·rw [n]at r;cases r
 have hm:∀ b u,H b=some u->¬ Mut (some u)->b≠x:=fun b u q nm z=>by subst z;rw [q]at mu;#nm mu
 &⟨fun b u q n _ _=>k b u (hb b n) q,fun b u q n _ _=>⟨u.slots,k b u (hb b n) q⟩,fun b u q n _=>by rw [aF (hx b n)];#n,fun b u q _=> ?_,
  fun b xs q=>by rw [aF (hm b _ q fun z=>z)];#q,fun b u xs q=>by rw [aF (hm b _ q fun z=>z)];#q,fun b ps q=>⟨#[],by rw [aF (hm b _ q fun z=>z),q];simp⟩⟩
 by_cases hbe:b=e
 ·subst hbe;#heo
 ·#⟨u,k b u hbe q⟩
end
def trk (h:Heap)(H:Hp):List Addr:=(List.range h.objs.size).filter fun a=>(H a).isSome
def ql (h:Heap)(H:Hp):Heap:=PySem.W.hideAll h (trk h H)
&vV (h:Heap)(H:Hp):(ql h H).objs.size=h.objs.size:=PySem.W.hideAll_size _ _
&yq {h:Heap}{H:Hp}{b:Addr}{o:Obj}(e:h.get? b=some o)(n:H b=none):(ql h H).get? b=some o:=
 PySem.W.hideAll_get _ e fun hm=>by
  have q:(H b).isSome=true:=(List.mem_filter.mp hm).2
  rw [n]at q;simp at q
&of_hidT {h:Heap}{H:Hp}{b:Addr}{o:Obj}(e:(ql h H).get? b=some o):h.get? b=some o/\H b=none:=by
 have e':h.get? b=some o:=PySem.W.of_hideAll (trk h H) e
 &⟨e',?_⟩
 cases q:H b with
 | none=>rfl
 | some x=>
  have hm:b∈trk h H:=List.mem_filter.mpr ⟨List.mem_range.mpr (Heap.lt_size e'),by simp [q]⟩
  have z:(ql h H).get? b=none:=PySem.W.hideAll_none (trk h H) hm
  rw [z]at e;cases e
def allNews (g h:Heap)(L:Addr):List (Addr×Obj):=(List.range h.objs.size).filterMap fun a=>if a=L\/(g.get? a).isSome=true then none else(h.get? a).map fun o=>(a,o)
def cL (g h:Heap)(L d:Addr):List (Addr×Obj):=(allNews g h L).filter fun p=>decide (p.1≠d)
structure Mod (K:PySem.W.Frag)(mg:Str->Option Value)(base:Heap):Prop where
 kin:K.In base
 glob:base.Ns mainGlobals mg
 blt:∃ mb,base.Ns builtinsNs mb/\∀ x:Str,x≠ "__name__"->mb x=bootBuiltins x
 nolimit:base.NoLimit
structure Cx where
 prog:Program
 w:World
 K:PySem.W.Frag
 mg:Str->Option Value
 base:Heap
 A:Around
 N:List Str
 s₀:Shared
 H₀:Hp
 env:Env
 outer:List Env
 stack:List Env
 ex:List Addr
 fn:Str->Bool
 calm:Bool
 pn:List (Addr×Obj)
 xe:Value->Shared->Prop
def ni (l:List Env):List Addr:=l.filterMap (·.frame)
abbrev Cx.fs (X:Cx):List Addr:=ni X.outer
def qH (sc:Scope)(x:Str):Prop:=sc.names.lookup x=some .local\/sc.names.lookup x=some .cell\/sc.names.lookup x=some .free
def Loc (sc:Scope)(x:Str):Prop:=sc.names.lookup x=some .local\/sc.names.lookup x=some .cell
def Look (env:Env)(h:Heap)(m:Str->Option Value)(x:Str)(u:Value):Prop:=
 (env.kindOf x=some .local/\m x=some u)\/((env.kindOf x=some .cell\/env.kindOf x=some .free)/\∃ c,env.cells.lookup x=some c/\h.IsCell c (some u))
structure Cx.Ok (X:Cx):Prop where
 mod:Mod X.K X.mg X.base
 kind:X.env.scope.kind= .function
 glob:X.env.globals=mainGlobals
 blt:X.env.builtins=builtinsNs
 above:X.s₀.heap.objs.size<=X.env.locals
 inj:∀ x y c,X.env.cells.lookup x=some c->X.env.cells.lookup y=some c->x=y
 has:∀ x,(X.env.kindOf x=some .cell\/X.env.kindOf x=some .free)->∃ c,X.env.cells.lookup x=some c
 cab:∀ x c,X.fn x=true->X.env.cells.lookup x=some c->X.s₀.heap.objs.size<=c
 hd:X.calm=true->X.A.handled=none
 frames:X.A.frames=some X.stack
 stk:X.stack=X.outer\/(X.stack=X.env::X.outer/\X.env.frame=some X.env.locals)
 exf:∀ b∈X.ex,b≠X.env.locals/\∀ x c,X.env.cells.lookup x=some c->c≠b
 bs:∀ b o,X.base.get? b=some o->X.s₀.heap.get? b=some o/\X.H₀ b=none
 bsz:X.base.objs.size<=X.s₀.heap.objs.size
 noex:∀ b o,X.base.get? b=some o->b∉X.ex
 exfs:∀ b∈X.ex,b∉X.fs
 funs:X.s₀.heap.FunFrames X.base X.outer
 frf:∀ b∈X.fs,X.H₀ b=none
structure Inv (X:Cx)(pins:List (Addr×Obj))(σ:List (Option V))(H:Hp)(s:Shared):Prop where
 ok:X.Ok
 os:s.os=X.s₀.os
 bare:AllBare s.gens
 base:Un X.fs X.ex X.H₀ H X.s₀.heap s.heap
 loc:∃ m,s.heap.Ns X.env.locals m/\∀ (i:Nat) (x:Str) (v:V),X.N[i]? =some x->σ[i]? =some (some v)->qH X.env.scope x->∃ u,RelV v u/\Look X.env s.heap m x u
 cell:∀ x c,X.env.cells.lookup x=some c->∃ v,s.heap.IsCell c v
 free:H X.env.locals=none
 freeC:∀ x c,X.env.cells.lookup x=some c->H c=none
 pin:∀ p∈X.pn++pins,s.heap.get? p.1=some p.2/\H p.1=none/\p.1≠X.env.locals/\p.1∉X.fs/\∀ v,p.2.data≠ .cell v
 hok:HOk X.prog X.w H s.heap
 len:σ.length=X.N.length
section
variable {X:Cx}{pins:List (Addr×Obj)}{σ:List (Option V)}{H H':Hp}{s:Shared}{h':Heap}
&Cx.Ok.nofr (ok:X.Ok){b:Addr}{o:Obj}(e:X.base.get? b=some o):b∉X.fs:=fun hb=>by
 have:=(ok.funs.mem hb).1
 rw [e]at this;cases this
&Inv.bs (I:Inv X pins σ H s):∀ b o,X.base.get? b=some o->s.heap.get? b=some o/\H b=none:=fun b o e=>
 ⟨I.base.keep b o (I.ok.bs b o e).1 (I.ok.bs b o e).2 (I.ok.nofr e) (I.ok.noex b o e),I.base.free b o (I.ok.bs b o e).1 (I.ok.bs b o e).2 (I.ok.noex b o e)⟩
&Inv.bk (I:Inv X pins σ H s):∀ b o,X.base.get? b=some o->s.heap.get? b=some o:=fun b o e=>(I.bs b o e).1
&Inv.mod (I:Inv X pins σ H s):Mod X.K X.mg X.base:=I.ok.mod
&Inv.kIn (I:Inv X pins σ H s):X.K.In s.heap:=I.ok.mod.kin.keeps I.bk
&Inv.lt (I:Inv X pins σ H s):X.env.locals<s.heap.objs.size:=let ⟨_,hn,_⟩:=I.loc;hn.lt
&Inv.sz (I:Inv X pins σ H s):X.s₀.heap.objs.size<=s.heap.objs.size:=Nat.le_trans I.ok.above (Nat.le_of_lt I.lt)
&Inv.nofs (I:Inv X pins σ H s){a:Addr}(h:s.heap.objs.size<=a):a∉X.fs:=fun hb=>by
 &⟨_,o,ho,_⟩:=I.ok.funs.mem hb
 #absurd (Nat.lt_of_lt_of_le (Heap.lt_size ho) (Nat.le_trans I.sz h)) (Nat.lt_irrefl _)
&Inv.cne (I:Inv X pins σ H s):∀ x c,X.env.cells.lookup x=some c->c≠X.env.locals:=fun x c e z=>by
 &⟨v,o,ho,hd⟩:=I.cell x c e
 &⟨m,⟨o',es,ep,ho',hd',_⟩,_⟩:=I.loc
 rw [z,ho']at ho;cases ho;rw [hd']at hd;cases hd
&Inv.funs (I:Inv X pins σ H s):s.heap.FunFrames X.base X.outer:=by
 have all:∀ (l:List Env),(∀b∈ni l,b∈X.fs)->X.s₀.heap.FunFrames X.base l->s.heap.FunFrames X.base l:=by
  intro l
  induction l with
  | nil=>intro _ _;trivial
  | cons env r ih=>
   intro hs hl
   &⟨hk,⟨L,o,hf,hn,ho,hd⟩,hr⟩:=hl
   have hL:L∈X.fs:=hs L (by #,ni;rw [List.filterMap_cons,hf];#List.mem_cons_self)
   &⟨sl,e⟩:=I.base.slot L o ho (I.ok.frf L hL) hL fun z=>I.ok.exfs L z hL
   #⟨hk,⟨L,_,hf,hn,e,hd⟩,ih (fun b hb=>hs b (by #,ni;rw [List.filterMap_cons,hf];#List.mem_cons_of_mem _ hb)) hr⟩
 #all X.outer (fun _ hb=>hb) I.ok.funs
&Inv.stack (I:Inv X pins σ H s):s.heap.FunFrames X.base X.stack:=by
 rcases I.ok.stk with e | ⟨e,hf⟩
 ·rw [e];#I.funs
 ·rw [e]
  &⟨m,hn,_⟩:=I.loc
  &.cons (by rw [I.ok.kind];decide) hf hn ?_ I.funs
  #Heap.get?_none_of_le (Nat.le_trans I.ok.bsz I.ok.above)
&Inv.stkSub (I:Inv X pins σ H s):∀ b∈ni X.stack,b∈X.env.locals::X.fs:=fun b hb=>by
 rcases I.ok.stk with e | ⟨e,hf⟩
 ·rw [e]at hb;#List.mem_cons_of_mem _ hb
 ·rw [e]at hb
  unfold ni at hb
  rw [List.filterMap_cons,hf]at hb
  #hb
&Inv.stkFree (I:Inv X pins σ H s):∀ b∈ni X.stack,H b=none:=fun b hb=>by
 rcases List.mem_cons.mp (I.stkSub b hb)with e | hb
 ·rw [e];#I.free
 ·&⟨_,o,ho,_⟩:=I.ok.funs.mem hb
  #I.base.free b o ho (I.ok.frf b hb) fun z=>I.ok.exfs b z hb
&Inv.step {g':Array GenState}{t':Nat}{d':Drawn}{ch:List Addr}(I:Inv X pins σ H s)
  (hch:∀ b∈ch,(b∈X.ex\/X.s₀.heap.objs.size<=b)/\b≠X.env.locals/\(∀x c,X.env.cells.lookup x=some c->c≠b)/\∀ p∈X.pn++pins,p.1≠b)
  (keep:∀ b o,b≠X.env.locals->b∉X.fs->b∉ch->s.heap.get? b=some o->H b=none->h'.get? b=some o)
  (slot:∀ b o,b≠X.env.locals->b∈X.fs->b∉ch->s.heap.get? b=some o->H b=none->∃ sl,h'.get? b=some { o with slots:=sl }) (free:∀ b o,b∉ch->s.heap.get? b=some o->H b=none->H' b=none)
  (there:∀ b o,b∉ch->s.heap.get? b=some o->∃ o',h'.get? b=some o')
  (tups:∀ b xs,H b=some (.tup xs)->H' b=some (.tup xs)) (frzs:∀ b o u,H b=some (.frz o u)->H' b=some (.frz o u)) (tbls:∀ b ps,H b=some (.tbl ps)->∃ more,H' b=some (.tbl (ps++more)))
  (ns:∀ m,s.heap.Ns X.env.locals m->h'.Ns X.env.locals m) (hok:HOk X.prog X.w H' h') (hg:AllBare g') :
  Inv X pins σ H' { s with heap:=h',gens:=g',drawn:=d',toks:=t' }:=by
 have neL:∀ b o,X.s₀.heap.get? b=some o->b≠X.env.locals:=fun b o e=>Nat.ne_of_lt (Nat.lt_of_lt_of_le (Heap.lt_size e) I.ok.above)
 have neC:∀ b o,X.s₀.heap.get? b=some o->b∉X.ex->b∉ch:=fun b o e hx hb=>by
  rcases(hch b hb).1 with z | z
  ·#hx z
  ·#absurd (Nat.lt_of_lt_of_le (Heap.lt_size e) z) (Nat.lt_irrefl _)
 have cellK:∀ x c,X.env.cells.lookup x=some c->∀ v,s.heap.IsCell c v->h'.IsCell c v:=fun x c e v hh_=>by
  &⟨o,ho,hd⟩:=hh_
  have nch:c∉ch:=fun z=>(hch c z).2.2.1 x c e rfl
  by_cases hc:c∈X.fs
  ·&⟨sl,q⟩:=slot c o (I.cne x c e) hc nch ho (I.freeC x c e)
   #⟨_,q,hd⟩
  ·#⟨o,keep c o (I.cne x c e) hc nch ho (I.freeC x c e),hd⟩
 &⟨I.ok,I.os,hg,⟨fun b o e n hb hx=> ?_,fun b o e n hb hx=> ?_,fun b o e n hx=> ?_,fun b o e hx=> ?_,fun b xs e=>tups b xs (I.base.tups b xs e),fun b o xs e=>frzs b o xs (I.base.frzs b o xs e),fun b ps e=> ?_⟩,?_,fun x c e=> ?_,?_,fun x c e=> ?_,fun p hp=> ?_,hok,I.len⟩
 ·#keep b o (neL b o e) hb (neC b o e hx) (I.base.keep b o e n hb hx) (I.base.free b o e n hx)
 ·&⟨sl,e1⟩:=I.base.slot b o e n hb hx
  &⟨sl',e2⟩:=slot b _ (neL b o e) hb (neC b o e hx) e1 (I.base.free b o e n hx)
  #⟨sl',e2⟩
 ·&⟨o',e1⟩:=I.base.there b o e hx
  #free b o' (neC b o e hx) e1 (I.base.free b o e n hx)
 ·&⟨o',e1⟩:=I.base.there b o e hx
  #there b o' (neC b o e hx) e1
 ·&⟨m1,e1⟩:=I.base.tbls b ps e
  &⟨m2,e2⟩:=tbls b _ e1
  #⟨m1++m2,by rw [e2,Array.append_assoc]⟩
 ·&⟨m,hn,hl⟩:=I.loc
  &⟨m,ns m hn,fun i x v e1 e2 e3=> ?_⟩
  &⟨u,r,l⟩:=hl i x v e1 e2 e3
  &⟨u,r,?_⟩
  rcases l with l | ⟨k,c,e,z⟩
  ·#.inl l
  ·#.inr ⟨k,c,e,cellK x c e _ z⟩
 ·&⟨v,z⟩:=I.cell x c e
  #⟨v,cellK x c e v z⟩
 ·&⟨m,⟨o,_,_,ho,_⟩,_⟩:=I.loc
  #free _ o (fun z=>(hch _ z).2.1 rfl) ho I.free
 ·&⟨v,o,ho,hd⟩:=I.cell x c e
  #free c o (fun z=>(hch c z).2.2.1 x c e rfl) ho (I.freeC x c e)
 ·&⟨e,n,ne,nf,d⟩:=I.pin p hp
  have nch:p.1∉ch:=fun z=>(hch p.1 z).2.2.2 p hp rfl
  #⟨keep p.1 p.2 ne nf nch e n,free p.1 p.2 nch e n,ne,nf,d⟩
&Inv.un {t':Nat}(I:Inv X pins σ H s)(u:Un X.fs [] H H' s.heap h')(hok:HOk X.prog X.w H' h'):Inv X pins σ H' { s with heap:=h',toks:=t' }:=by
 &⟨m,⟨o,es,ep,ho,r⟩,_⟩:=id I.loc
 &⟨sl,hL⟩:=u.any ho I.free (by simp)
 #I.step (g':=s.gens) (d':=s.drawn) (ch:=[]) (fun _ z=>nomatch z) (fun b o _ hb _ e n=>u.keep b o e n hb (by simp)) (fun b o _ hb _ e n=>u.slot b o e n hb (by simp)) (fun b o _ e n=>u.free b o e n (by simp)) (fun b o _ e=>u.there b o e (by simp)) u.tups u.frzs u.tbls (fun m' hm=>by
  &⟨o',es',ep',ho',r'⟩:=hm
  rw [ho]at ho';cases ho'
  #⟨_,es',ep',hL,r'⟩) hok I.bare
&Inv.call {g':Array GenState}{t':Nat}{d':Drawn}{ch:List Addr}(I:Inv X pins σ H s)(u:Un (ni X.stack) ch H H' s.heap h')(hok:HOk X.prog X.w H' h')(hg:AllBare g')
  (hch:∀ b∈ch,(b∈X.ex\/X.s₀.heap.objs.size<=b)/\b≠X.env.locals/\(∀x c,X.env.cells.lookup x=some c->c≠b)/\∀ p∈X.pn++pins,p.1≠b) :
  Inv X pins σ H' { s with heap:=h',gens:=g',drawn:=d',toks:=t' }:=by
 &⟨m,⟨o,es,ep,ho,r⟩,_⟩:=id I.loc
 &⟨sl,hL⟩:=u.any ho I.free fun z=>(hch _ z).2.1 rfl
 #I.step (ch:=ch) hch (fun b o hL hb hc e n=>u.keep b o e n (fun z=>(List.mem_cons.mp (I.stkSub b z)).elim hL hb) hc) (fun b o _ _ hc e n=>u.any e n hc) (fun b o hc e n=>u.free b o e n hc) (fun b o hc e=>u.there b o e hc) u.tups u.frzs u.tbls (fun m' hm=>by
  &⟨o',es',ep',ho',r'⟩:=hm
  rw [ho]at ho';cases ho'
  #⟨_,es',ep',hL,r'⟩) hok hg
&Inv.turned {t':Nat}{it:Addr}(I:Inv X pins σ H s)(k:∀ b o,b≠it->s.heap.get? b=some o->h'.get? b=some o)(hn:H it=none)(hL:it≠X.env.locals)
  (h1:it∈X.ex\/X.s₀.heap.objs.size<=it) (h2:∀ x c,X.env.cells.lookup x=some c->c≠it) (h3:∀ p∈X.pn++pins,p.1≠it):Inv X pins σ H { s with heap:=h',toks:=t' }:=by
 have nit:∀ b u,H b=some u->b≠it:=fun b u e z=>by rw [z,hn]at e;cases e
 &I.step (g':=s.gens) (d':=s.drawn) (ch:=[it]) (fun b hb=> ?_) (fun b o _ _ hc e _=>k b o (fun z=>hc (by simp [z])) e) (fun b o _ _ hc e _=>⟨o.slots,k b o (fun z=>hc (by simp [z])) e⟩) (fun _ _ _ _ n=>n)
  (fun b o hc e=>⟨o,k b o (fun z=>hc (by simp [z])) e⟩) (fun _ _ e=>e) (fun _ _ _ e=>e) (fun b ps e=>⟨#[],by rw [e];simp⟩) (fun m hm=> ?_) (fun b u e=> ?_) I.bare
 ·have e:b=it:=by simpa using hb
  subst e
  #⟨h1,hL,h2,h3⟩
 ·&⟨o,es,ep,ho,r⟩:=hm
  #⟨o,es,ep,k _ o (Ne.symm hL) ho,r⟩
 ·&(I.hok b u e).stay (fun c v hc q=>k c v ?_ q) (fun _ q=>q) fun _ _ q=>q
  rcases hc with z | z
  ·rw [z];#nit b u e
  ·#nit c _ z
&Inv.tok (I:Inv X pins σ H s)(t:Nat):Inv X pins σ H { s with toks:=t }:=I.un (h':=s.heap) (t':=t) Un.refl I.hok
&Inv.kept {t':Nat}(I:Inv X pins σ H s)(k:∀ b u,s.heap.get? b=some u->h'.get? b=some u):Inv X pins σ H { s with heap:=h',toks:=t' }:=I.un (Un.kept k) (I.hok.kept k)
&Inv.laid {a:Addr}{o:HO}{t':Nat}(I:Inv X pins σ H s)(k:∀ b u,s.heap.get? b=some u->h'.get? b=some u)(hp:s.heap.objs.size<=a)(new:ObjOk X.prog X.w (upd H a o) h' a o) :
  Inv X pins σ (upd H a o) { s with heap:=h',toks:=t' }:=I.un (Un.laid k hp (I.hok.fresh hp)) (I.hok.laid k hp new)
&Inv.write {x e:Addr}{o:HO}{t':Nat}(I:Inv X pins σ H s)(mu:Mut (H x))(he:e=x\/H e=some (.own x))(k:∀ b u,b≠e->s.heap.get? b=some u->h'.get? b=some u)(heo:∃ u,h'.get? e=some u)
  (new:ObjOk X.prog X.w (upd H x o) h' x o):Inv X pins σ (upd H x o) { s with heap:=h',toks:=t' }:=I.un (Un.write mu he k heo) (I.hok.write mu he k heo new)
&Inv.pins_of {pins':List (Addr×Obj)}(I:Inv X pins σ H s)(h:∀ p∈pins',s.heap.get? p.1=some p.2/\H p.1=none/\p.1≠X.env.locals/\p.1∉X.fs/\∀ v,p.2.data≠ .cell v):Inv X pins' σ H s:=
 ⟨I.ok,I.os,I.bare,I.base,I.loc,I.cell,I.free,I.freeC,fun p hp=>(List.mem_append.mp hp).elim (fun z=>I.pin p (List.mem_append_left _ z)) (h p),I.hok,I.len⟩
&rJ {N:List Str}(hN:N.Nodup){i j:Nat}{x:Str}(a:N[i]? =some x)(b:N[j]? =some x):i=j:=by
 &⟨h1,e1⟩:=List.getElem?_eq_some_iff.mp a
 &⟨h2,e2⟩:=List.getElem?_eq_some_iff.mp b
 #(List.getElem_inj hN).mp (e1.trans e2.symm)
&ox {M:Model}{A:Around}{E:Value->Shared->Prop}{i:Nat}{x:Str}{v:V}{u:Value}{Q:Unit->Shared->Prop}(I:Inv X pins σ H s)(hN:X.N.Nodup)(hi:X.N[i]? =some x)(hx:Loc X.env.scope x)(r:RelV v u)
  (h:∀ s',Inv X pins (σ.set i (some v)) H s'->(∃a,Heap.SameBut a s.heap s'.heap/\(a=X.env.locals\/X.env.cells.lookup x=some a))->Q () s') (hf:X.fn x=true\/X.env.scope.names.lookup x=some .local:=by first | #.inl rfl | #.inr rfl | assumption):wpAny M A (storeName X.env x u) Q E s:=by
 &⟨m,hn,hl⟩:=id I.loc
 have hcls:(X.env.scope.kind == .class||(X.env.scope.kind == .module&&X.env.locals != X.env.globals))=false:=by rw [I.ok.kind];rfl
 have hiσ:i<σ.length:=by rw [I.len];#(List.getElem?_eq_some_iff.mp hi).1
 have cne:=I.cne
 have tracked:∀ {a:Addr} {h':Heap},(∃o,s.heap.get? a=some o/\H a=none)->Heap.SameBut a s.heap h'->HOk X.prog X.w H h':=fun {a h'} ha hs b ob e=>by
  &⟨_,_,hfree⟩:=ha
  &(I.hok b ob e).stay (fun c w' hc q=>(hs.2 c ?_).trans q) (fun _ q=>q) fun _ _ q=>q
  rintro rfl
  rcases hc with rfl | hc
  ·rw [hfree]at e;cases e
  ·rw [hfree]at hc;cases hc
 rcases hx with hk | hk
 ·&wpAny_storeName_local hk hn (fun h' hn' hs=> ?_) hcls
  &⟨oL,_,_,hoL,_⟩:=id hn
  &h _ ⟨I.ok,I.os,I.bare,⟨fun b o e n hb hx=> ?_,fun b o e n hb hx=> ?_,I.base.free,fun b o e hx=> ?_,I.base.tups,I.base.frzs,I.base.tbls⟩,⟨_,hn',fun j y v' e1 e2 e3=> ?_⟩,fun y c e=> ?_,I.free,I.freeC,fun p hp=> ?_,tracked ⟨oL,hoL,I.free⟩ hs,by simpa using I.len⟩ ⟨_,hs,.inl rfl⟩
  ·#(hs.2 b (Nat.ne_of_lt (Nat.lt_of_lt_of_le (Heap.lt_size e) I.ok.above))).trans (I.base.keep b o e n hb hx)
  ·&⟨sl,e1⟩:=I.base.slot b o e n hb hx
   #⟨sl,(hs.2 b (Nat.ne_of_lt (Nat.lt_of_lt_of_le (Heap.lt_size e) I.ok.above))).trans e1⟩
  ·&⟨o',e1⟩:=I.base.there b o e hx
   #⟨o',(hs.2 b (Nat.ne_of_lt (Nat.lt_of_lt_of_le (Heap.lt_size e) I.ok.above))).trans e1⟩
  ·by_cases hj:j=i
   ·subst hj
    rw [hi]at e1;cases e1
    rw [List.getElem?_set_self hiσ]at e2
    cases e2
    #⟨u,r,.inl ⟨hk,by simp⟩⟩
   ·rw [List.getElem?_set_ne (Ne.symm hj)]at e2
    &⟨u',r',q⟩:=hl j y v' e1 e2 e3
    &⟨u',r',?_⟩
    rcases q with⟨k,e⟩ | ⟨k,c,e,z⟩
    ·&.inl ⟨k,?_⟩
     have:y≠x:=fun e=>hj (rJ hN e1 (e▸hi))
     simp [this,e]
    ·#.inr ⟨k,c,e,z.sameBut hs (cne y c e)⟩
  ·&⟨w',z⟩:=I.cell y c e
   #⟨w',z.sameBut hs (cne y c e)⟩
  ·&⟨e,n,ne,nf,d⟩:=I.pin p hp
   #⟨(hs.2 p.1 ne).trans e,n,ne,nf,d⟩
 ·have hfn:X.fn x=true:=by
   rcases hf with z | z
   ·#z
   ·rw [z]at hk;cases hk
  &⟨c,hc⟩:=I.ok.has x (.inl hk)
  &⟨w',z⟩:=I.cell x c hc
  &wpAny_storeName_cell I.ok.kind hk hc z (fun h' hc' hs=> ?_)
  &⟨oc,hoc,hocd⟩:=id z
  &h { s with heap:=h' } ⟨I.ok,I.os,I.bare,⟨fun b o e n hb hx=> ?_,fun b o e n hb hx=> ?_,I.base.free,fun b o e hx=> ?_,I.base.tups,I.base.frzs,I.base.tbls⟩,⟨m,hn.sameBut hs (Ne.symm (cne x c hc)),fun j y v' e1 e2 e3=> ?_⟩,fun y c' e=> ?_,I.free,I.freeC,fun p hp=> ?_,tracked ⟨oc,hoc,I.freeC x c hc⟩ hs,by simpa using I.len⟩ ⟨c,hs,.inr hc⟩
  ·#(hs.2 b (Nat.ne_of_lt (Nat.lt_of_lt_of_le (Heap.lt_size e) (I.ok.cab x c hfn hc)))).trans (I.base.keep b o e n hb hx)
  ·&⟨sl,e1⟩:=I.base.slot b o e n hb hx
   #⟨sl,(hs.2 b (Nat.ne_of_lt (Nat.lt_of_lt_of_le (Heap.lt_size e) (I.ok.cab x c hfn hc)))).trans e1⟩
  ·&⟨o',e1⟩:=I.base.there b o e hx
   #⟨o',(hs.2 b (Nat.ne_of_lt (Nat.lt_of_lt_of_le (Heap.lt_size e) (I.ok.cab x c hfn hc)))).trans e1⟩
  ·by_cases hj:j=i
   ·subst hj
    rw [hi]at e1;cases e1
    rw [List.getElem?_set_self hiσ]at e2
    cases e2
    #⟨u,r,.inr ⟨.inl hk,c,hc,hc'⟩⟩
   ·rw [List.getElem?_set_ne (Ne.symm hj)]at e2
    &⟨u',r',q⟩:=hl j y v' e1 e2 e3
    &⟨u',r',?_⟩
    rcases q with q | ⟨k,c',e,z'⟩
    ·#.inl q
    ·&.inr ⟨k,c',e,z'.sameBut hs ?_⟩
     rintro rfl
     #hj (rJ hN e1 (I.ok.inj _ _ _ e hc▸hi))
  ·by_cases hcc:c'=c
   ·subst hcc;#⟨_,hc'⟩
   ·&⟨w2,z2⟩:=I.cell y c' e
    #⟨w2,z2.sameBut hs hcc⟩
  ·&⟨e,n,ne,nf,d⟩:=I.pin p hp
   &⟨(hs.2 p.1 ?_).trans e,n,ne,nf,d⟩
   intro q
   rw [q,hoc]at e
   have q':oc=p.2:=Option.some.inj e
   #d w' (by rw [<-q'];#hocd)
&l7 {M:Model}{A:Around}{E:Value->Shared->Prop}{i:Nat}{x:Str}{v:V}{u:Value}{Q:Unit->Shared->Prop}(I:Inv X pins σ H s)(hN:X.N.Nodup)(hi:X.N[i]? =some x)(hx:Loc X.env.scope x)(r:RelV v u)
  (h:∀ s',Inv X pins (σ.set i (some v)) H s'->Q () s') (hf:X.fn x=true\/X.env.scope.names.lookup x=some .local:=by first | #.inl rfl | #.inr rfl | assumption):wpAny M A (storeName X.env x u) Q E s:=
 ox I hN hi hx r (fun s' I' _=>h s' I') hf
&Inv.call' {s':Shared}{ch:List Addr}(I:Inv X pins σ H s)(ho:s'.os=s.os)(u:Un (ni X.stack) ch H H' s.heap s'.heap)(hok:HOk X.prog X.w H' s'.heap)(hg:AllBare s'.gens)
  (hch:∀ b∈ch,(b∈X.ex\/X.s₀.heap.objs.size<=b)/\b≠X.env.locals/\(∀x c,X.env.cells.lookup x=some c->c≠b)/\∀ p∈X.pn++pins,p.1≠b):Inv X pins σ H' s':=by
 &⟨h',g',d',t',o'⟩:=s'
 have e:o'=s.os:=ho
 subst e
 #I.call (g':=g') (t':=t') (d':=d') u hok hg hch
end
abbrev XK:=Value->Option Addr->Hp->Prop
abbrev St:=List (Option V)
abbrev VK:=V->Hp->Prop
abbrev TE:=St->Hp->VK->Prop
abbrev TT:=St->Hp->(Bool->Hp->Prop)->Prop
abbrev TA:=St->Hp->(List V->Hp->Prop)->Prop
structure qG where
 nx:St->Hp->Prop
 rt:VK
 bk:St->Hp->Prop:=fun _ _=>False
 ct:St->Hp->Prop:=fun _ _=>False
abbrev TS:=qG->St->Hp->Prop
def EP (X:Cx)(pins:List (Addr×Obj))(σ:St)(Q:VK)(u:Value)(s':Shared):Prop:=∃ v H',Inv X pins σ H' s'/\RelV v u/\Q v H'
def TP (X:Cx)(pins:List (Addr×Obj))(σ:St)(Q:Bool->Hp->Prop)(b:Bool)(s':Shared):Prop:=∃ H',Inv X pins σ H' s'/\Q b H'
def AP (X:Cx)(pins:List (Addr×Obj))(σ:St)(Q:List V->Hp->Prop)(us:List Value)(s':Shared):Prop:=∃ vs H',Inv X pins σ H' s'/\Vals vs us/\Q vs H'
def SP (X:Cx)(pins:List (Addr×Obj))(D:qG)(f:Flow)(s':Shared):Prop:=
 match f with
 | .next=> ∃σ' H',Inv X pins σ' H' s'/\D.nx σ' H'
 | .brk=> ∃σ' H',Inv X pins σ' H' s'/\D.bk σ' H'
 | .cont=> ∃σ' H',Inv X pins σ' H' s'/\D.ct σ' H'
 | .ret u=> ∃v σ' H',Inv X pins σ' H' s'/\RelV v u/\D.rt v H'
def PE (X:Cx)(e:Expr)(t:TE):Prop:=
 ∀(pins:List (Addr×Obj)) (s:Shared) (σ:St) (H:Hp) (Q:VK),Inv X pins σ H s->t σ H Q->wpAny (model X.prog X.w) X.A (eval e X.env) (EP X pins σ Q) X.xe s
def PT (X:Cx)(e:Expr)(t:TT):Prop:=
 ∀(pins:List (Addr×Obj)) (s:Shared) (σ:St) (H:Hp) (Q:Bool->Hp->Prop),Inv X pins σ H s->t σ H Q->wpAny (model X.prog X.w) X.A (isTrue e X.env (eval e X.env)) (TP X pins σ Q) X.xe s
def PW (X:Cx)(e:Expr)(t:TT):Prop:=
 ∀(whole:Sem Value) (pins:List (Addr×Obj)) (s:Shared) (σ:St) (H:Hp) (Q:Bool->Hp->Prop),Inv X pins σ H s->t σ H Q->wpAny (model X.prog X.w) X.A (isTrue e X.env whole) (TP X pins σ Q) X.xe s
&PW.pt {X:Cx}{e:Expr}{t:TT}(h:PW X e t):PT X e t:=h _
def PA (X:Cx)(es:List Expr)(t:TA):Prop:=
 ∀(pos:Pos) (pins:List (Addr×Obj)) (s:Shared) (σ:St) (H:Hp) (Q:List V->Hp->Prop),Inv X pins σ H s->t σ H Q->wpAny (model X.prog X.w) X.A (spliced (backTo pos (starEach es X.env))) (AP X pins σ Q) X.xe s
def PS (X:Cx)(st:Stmt)(t:TS):Prop:=
 ∀(pins:List (Addr×Obj)) (s:Shared) (σ:St) (H:Hp) (D:qG),Inv X pins σ H s->t D σ H->wpAny (model X.prog X.w) X.A (exec st X.env) (SP X pins D) X.xe s
def PSs (X:Cx)(st:List Stmt)(t:TS):Prop:=
 ∀(pins:List (Addr×Obj)) (s:Shared) (σ:St) (H:Hp) (D:qG),Inv X pins σ H s->t D σ H->wpAny (model X.prog X.w) X.A (execs st X.env) (SP X pins D) X.xe s
&bU {α:Type}{t:Sem α}{Q Q':α->Shared->Prop}{M:Model}{A:Around}{E:Value->Shared->Prop}{s:Shared}(h:wpAny M A t Q E s)(hQ:∀ a s,Q a s->Q' a s):wpAny M A t Q' E s:=wpAny_mono h hQ fun _ _ x=>x
section
variable {X:Cx}
def l5 (i:Nat):TE:=fun σ H Q=> ∃v,σ[i]? =some (some v)/\Q v H
def tC (v:V):TE:=fun _ H Q=>Q v H
&gY {i:Nat}{x:Str}{pos:Pos}(hN:X.N[i]? =some x)(hv:qH X.env.scope x)(hd:(x == ("__debug__" : Str))=false:=by decide)(hcd:(x == ("__classdict__" : Str))=false:=by decide):PE X (.Name x pos) (l5 i):=by
 intro pins s σ H Q I h
 &⟨v,e,h⟩:=h
 &⟨m,hn,hl⟩:=I.loc
 &⟨u,r,l⟩:=hl i x v hN e hv
 have fin:EP X pins σ Q u s:=⟨v,H,I,r,h⟩
 rcases l with⟨hk,hm⟩ | ⟨hk,c,hc,hcell⟩
 ·#wpAny_Name (wpAny_loadName_local I.ok.kind hk hn hm fin) hd
 ·rcases hk with hk | hk
  ·#wpAny_Name (wpAny_loadName_cell I.ok.kind hk hc hcell fin) hd
  ·#wpAny_Name (wpAny_loadName_free I.ok.kind hk hc hcell fin hcd) hd
&sW {i j pos}:PE X (.Constant (.int i) j pos) (tC (.int i)):=fun _ _ _ H _ I h=>wpAny_Constant_int ⟨.int i,H,I.tok _,⟨_,rfl⟩,h⟩
&xC {b j pos}:PE X (.Constant (.bool b) j pos) (tC (.bl b)):=fun _ _ _ H _ I h=>Constant_bool ⟨.bl b,H,I,rfl,h⟩
&xw {j pos}:PE X (.Constant .none j pos) (tC .non):=fun _ _ _ H _ I h=>Constant_none ⟨.non,H,I,rfl,h⟩
&xu {x j pos}:PE X (.Constant (.str x) j pos) (tC (.str x)):=fun _ _ _ H _ I h=>Calls.Constant_str ⟨.str x,H,I.tok _,⟨_,rfl⟩,h⟩
def Gl (X:Cx)(x:Str):Prop:=X.env.kindOf x=some .globalImplicit
&jm {E:Value->Shared->Prop}{pins:List (Addr×Obj)}{s:Shared}{σ:St}{H:Hp}{x:Str}{u:Value}{pos:Pos}{Q:Value->Shared->Prop}(I:Inv X pins σ H s)(hg:Gl X x)(hm:X.mg x=some u)(h:Q u s)
  (hd:(x == ("__debug__" : Str))=false:=by decide):wpAny (model X.prog X.w) X.A (eval (.Name x pos) X.env) Q E s:=
 Calls.Name_function_global I.ok.kind hg (Calls.loadGlobal_global (by rw [I.ok.glob];#I.mod.glob.keeps I.bk) hm h) hd
&ge {E:Value->Shared->Prop}{pins:List (Addr×Obj)}{s:Shared}{σ:St}{H:Hp}{x:Str}{u:Value}{pos:Pos}{Q:Value->Shared->Prop}(I:Inv X pins σ H s)(hg:Gl X x)(hm:X.mg x=none)(hv:bootBuiltins x=some u)(h:Q u s)
  (hn:x≠ "__name__":=by decide) (hd:(x == ("__debug__" : Str))=false:=by decide):wpAny (model X.prog X.w) X.A (eval (.Name x pos) X.env) Q E s:=by
 &⟨mb,h1,h2⟩:=I.mod.blt
 #Calls.Name_function_global I.ok.kind hg (Calls.loadGlobal_builtin (by rw [I.ok.glob];#I.mod.glob.keeps I.bk) hm (by rw [I.ok.blt];#h1.keeps I.bk) ((h2 x hn).trans hv) h) hd
&pU {x:Str}{v:V}{u:Value}{pos:Pos}(hg:Gl X x)(hm:X.mg x=some u)(r:RelV v u)(hd:(x == ("__debug__" : Str))=false:=by decide):PE X (.Name x pos) (tC v):=
 fun _ _ _ H _ I h=>jm I hg hm ⟨v,H,I,r,h⟩ hd
&uq {x:Str}{v:V}{u:Value}{pos:Pos}(hg:Gl X x)(hm:X.mg x=none)(hv:bootBuiltins x=some u)(r:RelV v u)(hn:x≠ "__name__":=by decide)(hd:(x == ("__debug__" : Str))=false:=by decide):PE X (.Name x pos) (tC v):=
 fun _ _ _ H _ I h=>ge I hg hm hv ⟨v,H,I,r,h⟩ hn hd
variable {a b:Expr}{ta tb:TE}{pos:Pos}
def tB (t:TE):TT:=fun σ H Q=>t σ H fun x H1=> ∃c,x= .bl c/\Q c H1
&xk {e:Expr}{t:TE}(h:PE X e t)(he:∀ whole,isTrue e X.env whole=(do let v <-whole;standAt e.pos;holding [v] (truthy v)):=by intro _;rfl):PT X e (tB t):=by
 intro pins s σ H Q I hw
 &isTrue_plain (bU (h pins s σ H _ I hw) fun v s1 ⟨x,H1,I1,r1,q1⟩=> ?_) (he _)
 &⟨d,rfl,q⟩:=q1
 cases r1
 #wpAny_truthy_bool ⟨H1,I1,q⟩
variable {tA tB':TT}{cL:List Expr}
def tAnd (t u:TT):TT:=fun σ H Q=>t σ H fun c H1=>if c=true then u σ H1 Q else Q false H1
def tOr (t u:TT):TT:=fun σ H Q=>t σ H fun c H1=>if c=true then Q true H1 else u σ H1 Q
def tNot (t:TT):TT:=fun σ H Q=>t σ H fun c H1=>Q (!c) H1
&pw_and1 (ha:PT X a tA):PW X (.BoolOp .And [a] pos) tA:=by
 intro wh pins s σ H Q I h
 &isTrue_and (bU (ha pins s σ H Q I h) fun c s1 e=> ?_)
 cases c with
 | true=>#isTrue_and_nil e
 | false=>#e
&xi (ha:PT X a tA):PW X (.BoolOp .Or [a] pos) tA:=by
 intro wh pins s σ H Q I h
 &isTrue_or (bU (ha pins s σ H Q I h) fun c s1 e=> ?_)
 cases c with
 | false=>#isTrue_or_nil e
 | true=>#e
&pw_and (ha:PT X a tA)(hb:PW X (.BoolOp .And (b::cL) pos) tB'):PW X (.BoolOp .And (a::b::cL) pos) (tAnd tA tB'):=by
 intro wh pins s σ H Q I h
 &isTrue_and (bU (ha pins s σ H _ I h) fun c s1 hh_=> ?_)
 &⟨H1,I1,q1⟩:=hh_
 cases c with
 | true=>#hb wh pins s1 σ H1 Q I1 q1
 | false=>#⟨H1,I1,q1⟩
&pw_or (ha:PT X a tA)(hb:PW X (.BoolOp .Or (b::cL) pos) tB'):PW X (.BoolOp .Or (a::b::cL) pos) (tOr tA tB'):=by
 intro wh pins s σ H Q I h
 &isTrue_or (bU (ha pins s σ H _ I h) fun c s1 hh_=> ?_)
 &⟨H1,I1,q1⟩:=hh_
 cases c with
 | true=>#⟨H1,I1,q1⟩
 | false=>#hb wh pins s1 σ H1 Q I1 q1
&xm (ha:PT X a tA):PT X (.UnaryOp .Not a pos) (tNot tA):=by
 intro pins s σ H Q I h
 #isTrue_not (ha pins s σ H (fun c H1=>Q (!c) H1) I h)
def tAndV (ta tb:TE):TE:=fun σ H Q=>ta σ H fun x H1=> ∃c,x= .bl c/\if c=true then tb σ H1 Q else Q (.bl false) H1
def tOrV (ta tb:TE):TE:=fun σ H Q=>ta σ H fun x H1=> ∃c,x= .bl c/\if c=true then Q (.bl true) H1 else tb σ H1 Q
def tNotV (ta:TE):TE:=fun σ H Q=>ta σ H fun x H1=> ∃c,x= .bl c/\Q (.bl (!c)) H1
&pe_one {op}{t:TE}(h:PE X a t):PE X (.BoolOp op [a] pos) t:=fun pins s σ H Q I hw=>BoolOp_one (h pins s σ H Q I hw)
&pe_and (ha:PE X a ta)(hb:PE X (.BoolOp .And (b::cL) pos) tb):PE X (.BoolOp .And (a::b::cL) pos) (tAndV ta tb):=by
 intro pins s σ H Q I h
 &BoolOp_and (bU (ha pins s σ H _ I h) fun v s1 hh_=> ?_)
 &⟨x,H1,I1,r1,q1⟩:=hh_
 &⟨c,rfl,q1⟩:=q1
 cases r1
 &wpAny_truthy_bool ?_
 cases c with
 | true=>#hb pins s1 σ H1 Q I1 q1
 | false=>#⟨.bl false,H1,I1,rfl,q1⟩
&pe_or (ha:PE X a ta)(hb:PE X (.BoolOp .Or (b::cL) pos) tb):PE X (.BoolOp .Or (a::b::cL) pos) (tOrV ta tb):=by
 intro pins s σ H Q I h
 &BoolOp_or (bU (ha pins s σ H _ I h) fun v s1 hh_=> ?_)
 &⟨x,H1,I1,r1,q1⟩:=hh_
 &⟨c,rfl,q1⟩:=q1
 cases r1
 &wpAny_truthy_bool ?_
 cases c with
 | false=>#hb pins s1 σ H1 Q I1 q1
 | true=>#⟨.bl true,H1,I1,rfl,q1⟩
&pe_not (ha:PE X a ta):PE X (.UnaryOp .Not a pos) (tNotV ta):=by
 intro pins s σ H Q I h
 &UnaryOp_ (bU (ha pins s σ H _ I h) fun v s1 hh_=> ?_)
 &⟨x,H1,I1,r1,q1⟩:=hh_
 &⟨c,rfl,q1⟩:=q1
 cases r1
 #not_of (wpAny_truthy_bool ⟨.bl (!c),H1,I1,rfl,q1⟩)
def tIf (t:TT)(ta tb:TE):TE:=fun σ H Q=>t σ H fun c H1=>if c=true then ta σ H1 Q else tb σ H1 Q
&xy {c:Expr}(hc:PT X c tA)(ha:PE X a ta)(hb:PE X b tb):PE X (.IfExp c a b pos) (tIf tA ta tb):=by
 intro pins s σ H Q I h
 &wpAny_IfExp (bU (hc pins s σ H _ I h) fun d s1 hh_=> ?_)
 &⟨H1,I1,q1⟩:=hh_
 cases d with
 | true=>#ha pins s1 σ H1 Q I1 q1
 | false=>#hb pins s1 σ H1 Q I1 q1
end
def SqL (K:PySem.W.Frag)(H:Hp)(a:Addr)(xs:List V):Prop:=
 Rd H a (.lst xs) ∨
  ∃(o:Obj) (its:Array Value) (n:Nat),K.lookup a=some o/\o.cls= .type "list"/\o.dict=none/\o.data= .seq its n/\its.size<=sizeLine/\Vals xs its.toList
def SqT (K:PySem.W.Frag)(H:Hp)(a:Addr)(xs:List V):Prop:=
 Rd H a (.tup xs) ∨
  ∃(o:Obj) (its:Array Value) (n:Nat),K.lookup a=some o/\o.cls= .type "tuple"/\o.data= .seq its n/\its.size<=sizeLine/\Vals xs its.toList
def absV:Value->Option V
 | .none=>some .non
 | .bool b=>some (.bl b)
 | .int i _=>some (.int i)
 | .str x _=>some (.str x)
 | .bytes b _=>some (.byt b)
 | .float b _=>some (.flt b)
 | .ref a=>some (.ref a)
 | .type n=>some (.ty n)
 | _=>none
&RelV.abs {x:V}{u:Value}(r:RelV x u):absV u=some x:=by
 cases x with
 | non=>cases r;rfl
 | bl _=>cases r;rfl
 | int _=>&⟨t,rfl⟩:=r;rfl
 | str _=>&⟨t,rfl⟩:=r;rfl
 | byt _=>&⟨t,rfl⟩:=r;rfl
 | flt _=>&⟨t,rfl⟩:=r;rfl
 | ref _=>cases r;rfl
 | ty _=>cases r;rfl
&RelV.inj {x y:V}{u:Value}(r:RelV x u)(q:RelV y u):x=y:=Option.some.inj (r.abs.symm.trans q.abs)
&Vals.inj:∀ {xs ys:List V} {us:List Value},Vals xs us->Vals ys us->xs=ys
 | _,_,_,.nil,.nil=>rfl
 | _,_,_,.cons r t,.cons r' t'=>by rw [r.inj r',Vals.inj t t']
section
variable {X:Cx}{pins:List (Addr×Obj)}{σ:St}{H:Hp}{s:Shared}{a:Addr}{xs ys:List V}
&SqL.of {K:PySem.W.Frag}(h:H a=some (.lst xs)):SqL K H a xs:=.inl (.inl h)
&SqT.of {K:PySem.W.Frag}(h:H a=some (.tup xs)):SqT K H a xs:=.inl (.inl h)
&Inv.list (I:Inv X pins σ H s)(h:SqL X.K H a xs):∃ its:List Value,Vals xs its/\PlainL s.heap a its.toArray/\xs.length<=sizeLine:=by
 rcases h with h | ⟨o,its,n,hk,hc,hd,hs,hz,r⟩
 ·&⟨z,its,n,r,e⟩:=h.ok I.hok
  #⟨its,r,⟨_,n,e,rfl,rfl,rfl⟩,z⟩
 ·&⟨its.toList,r,⟨o,n,I.kIn a o hk,hc,hd,by simpa using hs⟩,?_⟩
  have e:=r.length
  simp only [Array.length_toList]at e
  omega
&Inv.tuple (I:Inv X pins σ H s)(h:SqT X.K H a xs):∃ its:List Value,Vals xs its/\IsTup s.heap a its.toArray/\xs.length<=sizeLine:=by
 rcases h with h | ⟨o,its,n,hk,hc,hs,hz,r⟩
 ·&⟨z,its,r,p⟩:=h.ok I.hok
  #⟨its,r,p,z⟩
 ·&⟨its.toList,r,⟨o,I.kIn a o hk,hc,n,by simpa using hs⟩,?_⟩
  have e:=r.length
  simp only [Array.length_toList]at e
  omega
&Inv.list_inj (I:Inv X pins σ H s)(h:SqL X.K H a xs)(h':SqL X.K H a ys):xs=ys:=by
 &⟨its,r,⟨o,n,e,_,_,d⟩,_⟩:=I.list h
 &⟨its',r',⟨o',n',e',_,_,d'⟩,_⟩:=I.list h'
 rw [e]at e';cases e'
 rw [d]at d'
 injection d' with d1 _
 have:its=its':=by simpa using congrArg Array.toList d1
 subst this
 #r.inj r'
&Inv.tuple_inj (I:Inv X pins σ H s)(h:SqT X.K H a xs)(h':SqT X.K H a ys):xs=ys:=by
 &⟨its,r,⟨o,e,_,n,d⟩,_⟩:=I.tuple h
 &⟨its',r',⟨o',e',_,n',d'⟩,_⟩:=I.tuple h'
 rw [e]at e';cases e'
 rw [d]at d'
 injection d' with d1 _
 have:its=its':=by simpa using congrArg Array.toList d1
 subst this
 #r.inj r'
end
abbrev Cx.wish (X:Cx)(E:Value->Shared->Prop):Cx:={ X with xe:=E }
abbrev Cx.nox (X:Cx):Cx:=X.wish fun _ _=>False
&Cx.Ok.wish {X:Cx}(ok:X.Ok)(E:Value->Shared->Prop):(X.wish E).Ok:=
 ⟨ok.mod,ok.kind,ok.glob,ok.blt,ok.above,ok.inj,ok.has,ok.cab,ok.hd,ok.frames,ok.stk,ok.exf,ok.bs,ok.bsz,ok.noex,ok.exfs,ok.funs,ok.frf⟩
&Cx.Ok.unwish {X:Cx}{E:Value->Shared->Prop}(ok:(X.wish E).Ok):X.Ok:=
 ⟨ok.mod,ok.kind,ok.glob,ok.blt,ok.above,ok.inj,ok.has,ok.cab,ok.hd,ok.frames,ok.stk,ok.exf,ok.bs,ok.bsz,ok.noex,ok.exfs,ok.funs,ok.frf⟩
section
variable {X:Cx}{pins:List (Addr×Obj)}{σ:St}{H:Hp}{s:Shared}{E:Value->Shared->Prop}
&Inv.wish (I:Inv X pins σ H s)(E:Value->Shared->Prop):Inv (X.wish E) pins σ H s:=⟨I.ok.wish E,I.os,I.bare,I.base,I.loc,I.cell,I.free,I.freeC,I.pin,I.hok,I.len⟩
&Inv.unwish (I:Inv (X.wish E) pins σ H s):Inv X pins σ H s:=⟨I.ok.unwish,I.os,I.bare,I.base,I.loc,I.cell,I.free,I.freeC,I.pin,I.hok,I.len⟩
&SP.unwish {D:qG}{f:Flow}{s':Shared}(h:SP (X.wish E) pins D f s'):SP X pins D f s':=by
 cases f with
 | next=>&⟨σ',H',I,q⟩:=h;#⟨σ',H',I.unwish,q⟩
 | brk=>&⟨σ',H',I,q⟩:=h;#⟨σ',H',I.unwish,q⟩
 | cont=>&⟨σ',H',I,q⟩:=h;#⟨σ',H',I.unwish,q⟩
 | ret u=>&⟨v,σ',H',I,r,q⟩:=h;#⟨v,σ',H',I.unwish,r,q⟩
&PSs.nox {st:List Stmt}{t:TS}(h:PSs X.nox st t):PSs X st t:=fun pins s σ H D I hw=>
 wpAny_mono (h pins s σ H D (I.wish _) hw) (fun _ _ q=>q.unwish) fun _ _ z=>False.elim z
end
section
variable {X:Cx}{st:Stmt}{cL:List Stmt}{t u:TS}{e:Expr}{te:TE}{pos:Pos}
def tNext:TS:=fun D σ H=>D.nx σ H
def tSeq (t u:TS):TS:=fun D σ H=>t { D with nx:=u D } σ H
&uh:PSs X [] tNext:=fun _ _ σ H _ I h=>wpAny_execs_nil ⟨σ,H,I,h⟩
&kf (h1:PS X st t)(h2:PSs X cL u):PSs X (st::cL) (tSeq t u):=by
 intro pins s σ H D I h
 &wpAny_execs_cons (bU (h1 pins s σ H { D with nx:=u D } I h) fun f s1 q=> ?_)
 cases f with
 | next=>
  &⟨σ',H',I',q⟩:=q
  #h2 pins s1 σ' H' D I' q
 | ret v=>#q
 | brk=>#q
 | cont=>#q
&fJ (h1:PS X st t):PSs X [st] t:=by
 intro pins s σ H D I h
 &wpAny_execs_cons (bU (h1 pins s σ H D I h) fun f s1 q=> ?_)
 cases f with
 | next=>#wpAny_execs_nil q
 | ret v=>#q
 | brk=>#q
 | cont=>#q
def tCont:TS:=fun D σ H=>D.ct σ H
&rn:PS X (.Continue pos) tCont:=fun _ _ σ H _ I h=>wpAny_Continue ⟨σ,H,I,h⟩
&Inv.quiet {pins:List (Addr×Obj)}{σ:St}{H:Hp}{s:Shared}(I:Inv X pins σ H s):interactive X.env=false:=by simp [interactive,I.ok.kind]
def tDrop (te:TE):TS:=fun D σ H=>te σ H fun _ H1=>D.nx σ H1
&pL (he:PE X e te)(hs:swapsWith e none pos.line X.env=pure false:=by rfl):PS X (.Expr e pos) (tDrop te):=by
 intro pins s σ H D I h
 #wpAny_Expr_any (bU (he pins s σ H _ I h) fun v s1 ⟨x,H1,I1,r1,q1⟩=>⟨σ,H1,I1,q1⟩) I.quiet hs
def tRet (te:TE):TS:=fun D σ H=>te σ H D.rt
&iH (he:PE X e te):PS X (.Return (some e) pos) (tRet te):=by
 intro pins s σ H D I h
 #wpAny_Return_some (bU (he pins s σ H _ I h) fun v s1 ⟨x,H1,I1,r1,q1⟩=>⟨x,σ,H1,I1,r1,q1⟩)
def tIfS (c:TT)(t u:TS):TS:=fun D σ H=>c σ H fun b H1=>if b=true then t D σ H1 else u D σ H1
&ps_if {c:Expr}{a b:List Stmt}{tc:TT}(hc:PT X c tc)(ha:PSs X a t)(hb:PSs X b u):PS X (.If c a b pos) (tIfS tc t u):=by
 intro pins s σ H D I h
 &wpAny_If (bU (hc pins s σ H _ I h) fun d s1 hh_=> ?_)
 &⟨H1,I1,q1⟩:=hh_
 cases d with
 | true=>#ha pins s1 σ H1 D I1 q1
 | false=>#hb pins s1 σ H1 D I1 q1
def tNever:TS:=fun _ _ _=>False
&xo:PS X st tNever:=fun _ _ _ _ _ _ h=>h.elim
end
abbrev TG:=V->St->Hp->(St->Hp->Prop)->Prop
abbrev TGs:=List V->St->Hp->(St->Hp->Prop)->Prop
def PG (X:Cx)(target:Expr)(t:TG):Prop:=
 ∀(pins:List (Addr×Obj)) (s:Shared) (σ:St) (H:Hp) (v:V) (u:Value) (Q:St->Hp->Prop),Inv X pins σ H s->RelV v u->t v σ H Q →
  wpAny (model X.prog X.w) X.A (assign target X.env u) (fun _ s'=> ∃σ' H',Inv X pins σ' H' s'/\Q σ' H') X.xe s
def PGs (X:Cx)(ts:List Expr)(t:TGs):Prop:=
 ∀(pins:List (Addr×Obj)) (s:Shared) (σ:St) (H:Hp) (vs:List V) (us:List Value) (Q:St->Hp->Prop),Inv X pins σ H s->Vals vs us->t vs σ H Q →
  wpAny (model X.prog X.w) X.A (assignInOrder ((assignEach ts X.env).map (·.2)) us) (fun _ s'=> ∃σ' H',Inv X pins σ' H' s'/\Q σ' H') X.xe s
section
variable {X:Cx}{pos:Pos}
def yw (i:Nat):TG:=fun v σ H Q=>Q (σ.set i (some v)) H
&pg_name {i:Nat}{x:Str}(hN:X.N.Nodup)(hi:X.N[i]? =some x)(hx:Loc X.env.scope x)(hf:X.fn x=true\/X.env.scope.names.lookup x=some .local:=by first | #.inl rfl | #.inr rfl | assumption):PG X (.Name x pos) (yw i):=by
 intro pins s σ H v u Q I r h
 #wpAny_assign_Name (l7 I hN hi hx r (fun s' I'=>⟨_,H,I',h⟩) hf)
def gNil:TGs:=fun vs σ H Q=>vs= []/\Q σ H
def gCons (t:TG)(u:TGs):TGs:=fun vs σ H Q=> ∃v r,vs=v::r/\t v σ H fun σ' H'=>u r σ' H' Q
&pgs_nil:PGs X [] gNil:=by
 intro pins s σ H vs us Q I r h
 &⟨e,h⟩:=h
 subst e
 cases r
 #assignInOrder_nil ⟨σ,H,I,h⟩
&xt {e:Expr}{es:List Expr}{t:TG}{u:TGs}(h1:PG X e t)(h2:PGs X es u)
  (hs:(assignEach (e::es) X.env).map (·.2)=assign e X.env::(assignEach es X.env).map (·.2):=by rfl):PGs X (e::es) (gCons t u):=by
 intro pins s σ H vs us Q I r h
 &⟨v,vr,e1,h⟩:=h
 subst e1
 cases r with
 | cons r rr=>
  rw [hs]
  &assignInOrder_cons (bU (h1 pins s σ H _ _ _ I r h) fun _ s1 hh_=> ?_)
  &⟨σ1,H1,I1,q1⟩:=hh_
  #h2 pins s1 σ1 H1 _ _ Q I1 rr q1
def gTup (K:PySem.W.Frag)(n:Nat)(t:TGs):TG:=fun v σ H Q=> ∃a xs,v= .ref a/\SqT K H a xs/\xs.length=n/\t xs σ H Q
&pg_tup {es:List Expr}{k:Nat}{t:TGs}{n:Nat}(hc:X.calm=true)(h:PGs X es t)
  (hn:(assignEach es X.env).length=n:=by rfl) (hst:(assignEach es X.env).findIdx? (·.1)=none:=by rfl):PG X (.Tuple es k pos) (gTup X.K n t):=by
 intro pins s σ H v u Q I r hw
 &⟨a,xs,e1,hq,hl,hw⟩:=hw
 subst e1
 cases r
 &⟨its,rv,ht,hz⟩:=I.tuple hq
 &assign_Tuple_tuple (I.ok.hd hc) ht (by simp [hn,<-hl,rv.length]) hst fun h' hx=> ?_
 have I1:Inv X pins σ H { s with heap:=h' }:=I.kept (t':=s.toks) fun b o e=>hx b o (Nat.ne_of_lt (Heap.lt_size e)) e
 #h pins _ σ H xs _ Q I1 (by simpa using rv) hw
def wL (te:TE)(g:TG):TS:=fun D σ H=>te σ H fun x H1=>g x σ H1 D.nx
&ps_asg {tg e:Expr}{te:TE}{g:TG}(he:PE X e te)(hg:PG X tg g)(hs:swapsWithSole [tg] e pos.line X.env=pure false:=by rfl)(hw:swappedStores [tg] e X.env=pure none:=by rfl)
  (h1:(assignEach [tg] X.env).map (·.2)= [assign tg X.env]:=by rfl):PS X (.Assign [tg] e pos) (wL te g):=by
 intro pins s σ H D I h
 &wpAny_Assign_stores (bU (he pins s σ H _ I h) fun v s1 ⟨x,H1,I1,r1,q1⟩=> ?_) hs hw
 rw [h1]
 #bU (hg pins s1 σ H1 x v _ I1 r1 q1) fun _ s2 q=>q
&mq {i:Nat}{x:Str}{e:Expr}{te:TE}{pos':Pos}(hN:X.N.Nodup)(hi:X.N[i]? =some x)(hx:Loc X.env.scope x)(he:PE X e te)(hs:swapsWith e (some (.Name x pos')) pos.line X.env=pure false:=by rfl)(hf:X.fn x=true\/X.env.scope.names.lookup x=some .local:=by first | #.inl rfl | #.inr rfl | assumption) :
  PS X (.Assign [.Name x pos'] e pos) (wL te (yw i)):=by
 intro pins s σ H D I h
 &wpAny_Assign_Name (bU (he pins s σ H _ I h) fun v s1 ⟨y,H1,I1,r1,q1⟩=> ?_) hs
 #l7 I1 hN hi hx r1 (fun s2 I2=>⟨_,H1,I2,q1⟩) hf
end
section
variable {X:Cx}{pos:Pos}
def sL (c:TT)(tb:TS):TS:=fun D σ H=> ∃W:Nat->St->Hp->Prop,(∃m,W m σ H)/\∀ m σ H,W m σ H →
 c σ H fun b H1=>if b=true then ∃N:St->Hp->Prop,(∀σ' H',N σ' H'->∃ m',m'<m/\W m' σ' H')/\tb { D with nx:=N,ct:=N,bk:=D.nx } σ H1 else D.nx σ H1
&xn {c:Expr}{body:List Stmt}{tc:TT}{tb:TS}(hp:PassesOwn (model X.prog X.w) X.A X.env X.xe)(hc:PT X c tc)(hb:PSs X body tb):PS X (.While c body [] pos) (sL tc tb):=by
 intro pins s σ H D I h
 &⟨W,⟨m0,w0⟩,turn⟩:=h
 &wpAny_While (codeAny_whileLoop (fun n s'=> ∃σ' H',Inv X pins σ' H' s'/\W n σ' H') ?_ m0 ⟨σ,H,I,w0⟩)
 rintro n s1 ⟨σ1,H1,I1,w1⟩
 &wpAny_passesOwn hp (bU (hc pins s1 σ1 H1 _ I1 (turn n σ1 H1 w1)) fun b s2 hh_=> ?_)
 &⟨H2,I2,q2⟩:=hh_
 cases b with
 | true=>
  &⟨N,hN,q2⟩:=q2
  rw [if_pos rfl]
  &wpAny_passesOwn hp (bU (hb pins s2 σ1 H2 _ I2 q2) fun f s3 q3=> ?_)
  cases f with
  | next=>
   &⟨σ3,H3,I3,n3⟩:=q3
   &⟨m',hm,w3⟩:=hN σ3 H3 n3
   #⟨m',hm,σ3,H3,I3,w3⟩
  | cont=>
   &⟨σ3,H3,I3,n3⟩:=q3
   &⟨m',hm,w3⟩:=hN σ3 H3 n3
   #⟨m',hm,σ3,H3,I3,w3⟩
  | brk=>#q3
  | ret v=>#q3
 | false=>
  rw [if_neg Bool.false_ne_true]
  #wpAny_execs_nil ⟨σ1,H2,I2,q2⟩
end
structure It where
 go:Nat->Hp->Prop
 yld:Nat->Hp->V->Hp->Prop
 stop:Nat->Hp->Prop
def nQ (X:Cx)(pins:List (Addr×Obj))(H:Hp)(b:Addr):Prop:=
 H b=none/\b≠X.env.locals/\b∉X.fs/\(b∈X.ex\/X.s₀.heap.objs.size<=b)/\(∀x c,X.env.cells.lookup x=some c->c≠b)/\∀ p∈X.pn++pins,p.1≠b
&Inv.fpOk {X:Cx}{pins:List (Addr×Obj)}{σ:St}{H H':Hp}{s:Shared}{b:Addr}(I:Inv X pins σ H s)(hb:s.heap.objs.size<=b)(hn:H' b=none):nQ X pins H' b:=by
 &⟨hn,Nat.ne_of_gt (Nat.lt_of_lt_of_le I.lt hb),I.nofs hb,.inr (Nat.le_trans I.sz hb),fun x c e z=> ?_,fun p hp z=> ?_⟩
 ·&⟨v,q⟩:=I.cell x c e
  #absurd (Nat.lt_of_lt_of_le q.lt (by rw [z];#hb)) (Nat.lt_irrefl _)
 ·#absurd (Nat.lt_of_lt_of_le (Heap.lt_size (I.pin p hp).1) (by rw [z];#hb)) (Nat.lt_irrefl _)
structure yW (P:Program)(w:World)(K:PySem.W.Frag)(tg:Expr)(J:It)(fp:List Addr)(it:Addr)(tn:Nat->Heap->Prop):Prop where
 mem:it∈fp
 obj:∀ i h,tn i h->∀ b∈fp,∃o,h.get? b=some o/\∀ v,o.data≠ .cell v
 keep:∀ i h h',tn i h->(∀b∈fp,∀o,h.get? b=some o->h'.get? b=some o)->tn i h'
 item:∀ (X:Cx),X.prog=P->X.w=w->X.K=K->X.calm=true->∀ (i:Nat) (pins:List (Addr×Obj)) (s:Shared) (σ:St) (H:Hp) (E:Value->Shared->Prop),Inv X pins σ H s->(∀b∈fp,nQ X pins H b)->tn i s.heap->J.go i H →
  wpAny (model P w) X.A (pyNext (.ref it)) (fun r s1=> ∃u,r=some u ∧
   wpAny (model P w) X.A (letOwnedTupleGo tg (.ref it) u) (fun _ s2=> ∃x H',Inv X pins σ H' s2/\RelV x u/\J.yld i H x H'/\tn (i+1) s2.heap/\∀ b∈fp,H' b=none) E s1) E s
 done:∀ (X:Cx),X.prog=P->X.w=w->X.K=K->X.calm=true->∀ (i:Nat) (pins:List (Addr×Obj)) (s:Shared) (σ:St) (H:Hp) (E:Value->Shared->Prop),Inv X pins σ H s->(∀b∈fp,nQ X pins H b)->tn i s.heap->J.stop i H →
  wpAny (model P w) X.A (pyNext (.ref it)) (fun r s1=>r=none/\Inv X pins σ H s1) E s
 self:∀ (A:Around) (i:Nat) (s:Shared) (Q:Value->Shared->Prop) (E:Value->Shared->Prop),tn i s.heap->Q (.ref it) s->wpAny (model P w) A (pyIter (.ref it)) Q E s
abbrev TI:=St->Hp->(It->Hp->Prop)->Prop
def PIE (X:Cx)(pins:List (Addr×Obj))(σ:St)(tg:Expr)(R:It->Hp->Prop)(itv:Value)(s2:Shared):Prop:=
 ∃(it:Addr) (fp:List Addr) (tn:Nat->Heap->Prop) (J:It) (H':Hp),itv= .ref it/\Inv X pins σ H' s2/\yW X.prog X.w X.K tg J fp it tn/\tn 0 s2.heap/\(∀b∈fp,nQ X pins H' b)/\R J H'
def PI (X:Cx)(tg iter:Expr)(wi:TI):Prop:=
 ∀(pins:List (Addr×Obj)) (s:Shared) (σ:St) (H:Hp) (R:It->Hp->Prop),Inv X pins σ H s->wi σ H R →
  wpAny (model X.prog X.w) X.A (eval iter X.env) (fun v s1=>wpAny (model X.prog X.w) X.A (pyIter v) (PIE X pins σ tg R) X.xe s1) X.xe s
&yr {M:Model}{A:Around}{E:Value->Shared->Prop}{s:Shared}{tg:Expr}{it:Addr}{u:Value}{o:Obj}{n:String}{vs:Array Value}{Q:Unit->Shared->Prop}(ho:s.heap.get? it=some o)(hc:o.cls= .type n)(hd:o.data= .fields vs)
  (hn:["enumerate","zip","dict_itemiterator","dict_reverseitemiterator","odict_iterator","itertools.zip_longest","itertools.pairwise"].contains n=false) (hQ:Q () s):wpAny M A (letOwnedTupleGo tg (.ref it) u) Q E s:=by
 #,letOwnedTupleGo
 cases tg <;> first
  | #wpAny_pure hQ
  | (cases u <;> first
    | #wpAny_pure hQ
    | (&wpAny_bind (wpAny_load ho ?_)
       rw [hc,hd]
       show wpAny M A (if (["enumerate","zip","dict_itemiterator","dict_reverseitemiterator","odict_iterator","itertools.zip_longest","itertools.pairwise"].contains n&&vs[0]? == some (rawInt _))=true then _ else _) Q E s
       rw [if_neg (by intro h;rw [hn,Bool.false_and]at h;cases h)]
       #wpAny_pure hQ))
def Itl (K:PySem.W.Frag)(a:Addr):It:=
 ⟨fun i H=> ∃xs x,SqL K H a xs/\xs[i]? =some x,fun i H x H'=>H'=H/\∀ xs,SqL K H a xs->xs[i]? =some x,fun i H=> ∃xs,SqL K H a xs/\xs.length<=i⟩
def Itt (K:PySem.W.Frag)(a:Addr):It:=
 ⟨fun i H=> ∃xs x,SqT K H a xs/\xs[i]? =some x,fun i H x H'=>H'=H/\∀ xs,SqT K H a xs->xs[i]? =some x,fun i H=> ∃xs,SqT K H a xs/\xs.length<=i⟩
def Itr (lo:Int)(n:Nat):It:=⟨fun i _=>i<n,fun i H x H'=>H'=H/\x= .int (lo+i),fun i _=>n<=i⟩
&vg {P:Program}{w:World}{K:PySem.W.Frag}{tg:Expr}(a it:Addr):yW P w K tg (Itl K a) [it] it (fun i h=>h.IsListIter it a i) where
 mem:=by simp
 obj:=fun i h st b hb=>by
  have e:b=it:=by simpa using hb
  subst e
  &⟨o,e,c,d⟩:=st
  #⟨o,e,fun v z=>by rw [d]at z;cases z⟩
 keep:=fun i h h' st k=>st.at fun o e=>k it (by simp) o e
 item:=by
  intro X hP hw hK hc i pins s σ H E I hf st hg
  subst hP hw hK
  &⟨xs,x,hq,hx⟩:=hg
  &⟨its,rv,p,hz⟩:=I.list hq
  &⟨u,hu,ru⟩:=rv.get hx
  &⟨f0,f1,f2,f3,f4,f5⟩:=hf it (by simp)
  &wpAny_pyNext_list_item st p.isList (x:=u) (by simpa using hu) fun h' st' sb=> ?_
  have I1:Inv X pins σ H { s with heap:=h' }:=I.turned (t':=s.toks) (fun b o hb e=>(sb.2 b hb).trans e) f0 f1 f3 f4 f5
  &⟨o,e,c,d⟩:=id st'
  #⟨u,rfl,yr (s:={ s with heap:=h' }) e c d (by decide) ⟨x,H,I1,ru,⟨rfl,fun ys hy=>by rw [I.list_inj hy hq];#hx⟩,st',fun b hb=>(hf b hb).1⟩⟩
 done:=by
  intro X hP hw hK hc i pins s σ H E I hf st hg
  subst hP hw hK
  &⟨xs,hq,hx⟩:=hg
  &⟨its,rv,p,hz⟩:=I.list hq
  &⟨f0,f1,f2,f3,f4,f5⟩:=hf it (by simp)
  have hl:=rv.length
  #wpAny_pyNext_list_end (I.ok.hd hc) st p.isList (by simp;omega) fun h' eb=>⟨rfl,I.turned (t':=s.toks) (fun b o hb e=>eb b o hb e) f0 f1 f3 f4 f5⟩
 self:=fun _ _ _ _ _ st h=>wpAny_pyIter_listiter st h
&sI {P:Program}{w:World}{K:PySem.W.Frag}{tg:Expr}(a it:Addr):yW P w K tg (Itt K a) [it] it (fun i h=>h.IsTupleIter it a i) where
 mem:=by simp
 obj:=fun i h st b hb=>by
  have e:b=it:=by simpa using hb
  subst e
  &⟨o,e,c,d⟩:=st
  #⟨o,e,fun v z=>by rw [d]at z;cases z⟩
 keep:=fun i h h' st k=>st.at fun o e=>k it (by simp) o e
 item:=by
  intro X hP hw hK hc i pins s σ H E I hf st hg
  subst hP hw hK
  &⟨xs,x,hq,hx⟩:=hg
  &⟨its,rv,p,hz⟩:=I.tuple hq
  &⟨u,hu,ru⟩:=rv.get hx
  &⟨f0,f1,f2,f3,f4,f5⟩:=hf it (by simp)
  &wpAny_pyNext_tuple_item st (show s.heap.IsTuple a its.toArray from p) (x:=u) (by simpa using hu) fun h' st' sb=> ?_
  have I1:Inv X pins σ H { s with heap:=h' }:=I.turned (t':=s.toks) (fun b o hb e=>(sb.2 b hb).trans e) f0 f1 f3 f4 f5
  &⟨o,e,c,d⟩:=id st'
  #⟨u,rfl,yr (s:={ s with heap:=h' }) e c d (by decide) ⟨x,H,I1,ru,⟨rfl,fun ys hy=>by rw [I.tuple_inj hy hq];#hx⟩,st',fun b hb=>(hf b hb).1⟩⟩
 done:=by
  intro X hP hw hK hc i pins s σ H E I hf st hg
  subst hP hw hK
  &⟨xs,hq,hx⟩:=hg
  &⟨its,rv,p,hz⟩:=I.tuple hq
  &⟨f0,f1,f2,f3,f4,f5⟩:=hf it (by simp)
  have hl:=rv.length
  #wpAny_pyNext_tuple_end (I.ok.hd hc) st (show s.heap.IsTuple a its.toArray from p) (by simp;omega) fun h' eb=>⟨rfl,I.turned (t':=s.toks) (fun b o hb e=>eb b o hb e) f0 f1 f3 f4 f5⟩
 self:=fun _ _ _ _ _ st h=>wpAny_pyIter_tupleiter st h
&sJ {P:Program}{w:World}{K:PySem.W.Frag}{tg:Expr}(it:Addr)(lo:Int)(n:Nat):yW P w K tg (Itr lo n) [it] it (fun i h=>IsRangeIter h it (lo+(i:Nat)*1) ((n:Int) - (i:Nat)) 1) where
 mem:=by simp
 obj:=fun i h st b hb=>by
  have e:b=it:=by simpa using hb
  subst e
  #⟨_,st,fun v z=>by
   have z':Data.fields _=Data.cell v:=z
   cases z'⟩
 keep:=fun i h h' st k=>k it (by simp) _ st
 item:=by
  intro X hP hw hK hc i pins s σ H E I hf st hg
  subst hP hw hK
  &⟨f0,f1,f2,f3,f4,f5⟩:=hf it (by simp)
  have W:=Walks.range (prog:=X.prog) (w:=X.w) (I.ok.hd hc) it lo 1 n
  &W.item i s _ _ hg st fun v h' tk hv st' kk=> ?_
  &⟨t,rfl⟩:=hv
  have I1:Inv X pins σ H { s with heap:=h',toks:=tk }:=I.turned (fun b o hb e=>kk b o (by simpa using hb) e) f0 f1 f3 f4 f5
  &⟨_,rfl,yr (s:={ s with heap:=h',toks:=tk }) (n:="range_iterator") st' rfl rfl (by decide) ⟨.int (lo+i),H,I1,⟨t,?_⟩,⟨rfl,rfl⟩,st',fun b hb=>(hf b hb).1⟩⟩
  rw [Int.mul_one]
 done:=by
  intro X hP hw hK hc i pins s σ H E I hf st hg
  subst hP hw hK
  &⟨f0,f1,f2,f3,f4,f5⟩:=hf it (by simp)
  #wpAny_pyNext_range_end (I.ok.hd hc) st (by have:n<=i:=hg;omega) fun h' eb=>⟨rfl,I.turned (t':=s.toks) (fun b o hb e=>eb b o hb e) f0 f1 f3 f4 f5⟩
 self:=fun _ _ _ _ _ st h=>wpAny_pyIter_rangeiter st h
section
variable {X:Cx}{tg:Expr}
def iList (K:PySem.W.Frag)(tl:TE):TI:=fun σ H R=>tl σ H fun x H1=> ∃a,x= .ref a/\(∃xs,SqL K H1 a xs)/\R (Itl K a) H1
def iTup (K:PySem.W.Frag)(tl:TE):TI:=fun σ H R=>tl σ H fun x H1=> ∃a,x= .ref a/\(∃xs,SqT K H1 a xs)/\R (Itt K a) H1
&pi_list {l:Expr}{tl:TE}(hl:PE X l tl):PI X tg l (iList X.K tl):=by
 intro pins s σ H R I h
 &bU (hl pins s σ H _ I h) fun v s1 hh_=> ?_
 &⟨x,H1,I1,r1,q1⟩:=hh_
 &⟨a,e,⟨xs,hq⟩,q⟩:=q1
 subst e
 cases r1
 &⟨its,rv,p,hz⟩:=I1.list hq
 &wpAny_pyIter_list p.isList ?_
 &⟨s1.heap.objs.size,[s1.heap.objs.size],_,_,H1,rfl,I1.kept (t':=s1.toks) fun b o e=>Heap.get?_push_of_some _ e,vg a _,⟨_,Heap.get?_push_size _ rfl,rfl,rfl⟩,fun b hb=> ?_,q⟩
 have e:b=s1.heap.objs.size:=by simpa using hb
 subst e
 #I1.fpOk (Nat.le_refl _) (I1.hok.fresh (Nat.le_refl _))
&pi_tup {l:Expr}{tl:TE}(hl:PE X l tl):PI X tg l (iTup X.K tl):=by
 intro pins s σ H R I h
 &bU (hl pins s σ H _ I h) fun v s1 hh_=> ?_
 &⟨x,H1,I1,r1,q1⟩:=hh_
 &⟨a,e,⟨xs,hq⟩,q⟩:=q1
 subst e
 cases r1
 &⟨its,rv,p,hz⟩:=I1.tuple hq
 &wpAny_pyIter_tuple (show s1.heap.IsTuple a its.toArray from p) ?_
 &⟨s1.heap.objs.size,[s1.heap.objs.size],_,_,H1,rfl,I1.kept (t':=s1.toks) fun b o e=>Heap.get?_push_of_some _ e,sI a _,⟨_,Heap.get?_push_size _ rfl,rfl,rfl⟩,fun b hb=> ?_,q⟩
 have e:b=s1.heap.objs.size:=by simpa using hb
 subst e
 #I1.fpOk (Nat.le_refl _) (I1.hok.fresh (Nat.le_refl _))
&ke {pins:List (Addr×Obj)}{σ:St}{H:Hp}{s:Shared}{R:It->Hp->Prop}{E:Value->Shared->Prop}{lo hi:Int}{t u v:Tok}{tk:Nat}(I:Inv X pins σ H s)(h1 : -(2 ^ 62)<=lo)(h2:lo<2 ^ 62)(h3 : -(2 ^ 62)<=hi)(h4:hi<2 ^ 62)
  (q:R (Itr lo (hi - lo).toNat) H):wpAny (model X.prog X.w) X.A (pyIter (.ref s.heap.objs.size)) (PIE X pins σ tg R) E { s with heap:=s.heap.push { cls:=.type "range",data:=.fields #[.int lo t,.int hi u,.int 1 v] },toks:=tk }:=by
 &wpAny_pyIter_range (IsRange.new ..) (small_one h1 h2 h3 h4) ?_
 have I1:Inv X pins σ H { s with heap:=s.heap.push { cls:=.type "range",data:=.fields #[.int lo t,.int hi u,.int 1 v] },toks:=tk }:=I.kept fun b o e=>Heap.get?_push_of_some _ e
 &⟨(s.heap.push { cls:=.type "range",data:=.fields #[.int lo t,.int hi u,.int 1 v] }).objs.size,[(s.heap.push { cls:=.type "range",data:=.fields #[.int lo t,.int hi u,.int 1 v] }).objs.size],_,_,H,rfl,
  I1.kept (t':=tk) fun b o e=>Heap.get?_push_of_some _ e,sJ _ lo (hi - lo).toNat,?_,fun b hb=> ?_,q⟩
 ·have e1:lo+((0:Nat):Int)*1=lo:=by simp
  have e2:(((hi - lo).toNat:Nat):Int) - ((0:Nat):Int)=Builtin.Range.rangeSize lo hi 1:=by rw [rangeSize_one];split <;> omega
  show IsRangeIter _ _ (lo+((0:Nat):Int)*1) ((((hi - lo).toNat:Nat):Int) - ((0:Nat):Int)) 1
  rw [e1,e2]
  #Heap.get?_push_size _ rfl
 ·have e:b=(s.heap.push { cls:=.type "range",data:=.fields #[.int lo t,.int hi u,.int 1 v] }).objs.size:=by simpa using hb
  subst e
  #I1.fpOk (Nat.le_refl _) (I1.hok.fresh (Nat.le_refl _))
def tFor (wi:TI)(g:TG)(tb:TS):TS:=fun D σ H=>wi σ H fun J H1=> ∃W:Nat->Nat->St->Hp->Prop,(∃m,W 0 m σ H1)/\∀ i m σ H,W i m σ H →
 (J.stop i H/\D.nx σ H)\/(J.go i H/\∃ N:St->Hp->Prop,(∀σ' H',N σ' H'->∃ m',m'<m/\W (i+1) m' σ' H')/\∀ x H',J.yld i H x H'->g x σ H' fun σ2 H2=>tb { D with nx:=N,ct:=N,bk:=D.nx } σ2 H2)
def mr (fp:List Addr)(h:Heap):List (Addr×Obj):=fp.filterMap fun b=>(h.get? b).map fun o=>(b,o)
&g8 {fp:List Addr}{h:Heap}{b:Addr}{o:Obj}(hb:b∈fp)(e:h.get? b=some o):(b,o)∈mr fp h:=List.mem_filterMap.mpr ⟨b,hb,by rw [e];rfl⟩
&vD {fp:List Addr}{h:Heap}{p:Addr×Obj}(hp:p∈mr fp h):p.1∈fp/\h.get? p.1=some p.2:=by
 &⟨b,hb,e⟩:=List.mem_filterMap.mp hp
 cases q:h.get? b with
 | none=>rw [q]at e;cases e
 | some o=>
  rw [q]at e
  have e':(b,o)=p:=Option.some.inj e
  subst e'
  #⟨hb,q⟩
&Inv.pinned {pins:List (Addr×Obj)}{σ:St}{H:Hp}{s:Shared}{fp:List Addr}(I:Inv X pins σ H s)(hf:∀ b∈fp,nQ X pins H b)(ho:∀ b∈fp,∃o,s.heap.get? b=some o/\∀ v,o.data≠ .cell v):Inv X (pins++mr fp s.heap) σ H s:=
 I.pins_of fun p hp=>(List.mem_append.mp hp).elim (fun z=>I.pin p (List.mem_append_right _ z)) fun z=>by
  &⟨hb,e⟩:=vD z
  &⟨f0,f1,f2,_⟩:=hf p.1 hb
  &⟨o,e',d⟩:=ho p.1 hb
  rw [e]at e';cases e'
  #⟨e,f0,f1,f2,d⟩
&Inv.unpinned {pins pl:List (Addr×Obj)}{σ:St}{H:Hp}{s:Shared}(I:Inv X (pins++pl) σ H s):Inv X pins σ H s:=I.pins_of fun p hp=>I.pin p (List.mem_append_right _ (List.mem_append_left _ hp))
end
abbrev R2:=V->V->Hp->VK->Prop
def nP (X:Cx)(f:Value->Value->Sem Value)(r:R2):Prop:=
 ∀(pins:List (Addr×Obj)) (s:Shared) (σ:St) (H:Hp) (x y:V) (v u:Value) (Q:VK),Inv X pins σ H s->RelV x v->RelV y u->r x y H Q →
  wpAny (model X.prog X.w) X.A (f v u) (EP X pins σ Q) X.xe s
def UnR (X:Cx)(f:Value->Sem Value)(r:V->Hp->VK->Prop):Prop:=
 ∀(pins:List (Addr×Obj)) (s:Shared) (σ:St) (H:Hp) (x:V) (v:Value) (Q:VK),Inv X pins σ H s->RelV x v->r x H Q →
  wpAny (model X.prog X.w) X.A (f v) (EP X pins σ Q) X.xe s
def CallR (X:Cx)(f:Value)(r:List V->Hp->VK->Prop):Prop:=
 ∀(pins:List (Addr×Obj)) (s:Shared) (σ:St) (H:Hp) (xs:List V) (us:List Value) (Q:VK),Inv X pins σ H s->Vals xs us->r xs H Q →
  wpAny (model X.prog X.w) X.A (call f us) (EP X pins σ Q) X.xe s
def tOp (r:R2)(ta tb:TE):TE:=fun σ H Q=>ta σ H fun x H1=>tb σ H1 fun y H2=>r x y H2 Q
def tUn (r:V->Hp->VK->Prop)(ta:TE):TE:=fun σ H Q=>ta σ H fun x H1=>r x H1 Q
def rI (C:Int->Int->Prop)(g:Int->Int->V):R2:=fun x y H Q=> ∃i j,x= .int i/\y= .int j/\C i j/\Q (g i j) H
def rI0 (g:Int->Int->V):R2:=fun x y H Q=> ∃i j,x= .int i/\y= .int j/\Q (g i j) H
def rU (g:Int->V):V->Hp->VK->Prop:=fun x H Q=> ∃i,x= .int i/\Q (g i) H
section
variable {X:Cx}{a b c:Expr}{ta tb tc:TE}{pos:Pos}
&binT (ha:PE X a ta)(hb:PE X b tb){pins:List (Addr×Obj)}{s:Shared}{σ:St}{H:Hp}{R:V->V->Hp->Prop}(I:Inv X pins σ H s)
  (h:ta σ H fun x H1=>tb σ H1 fun y H2=>R x y H2) {Q:Value->Shared->Prop} {f:Value->Value->Sem Value}
  (hf:∀ v u s2 x y H2,Inv X pins σ H2 s2->RelV x v->RelV y u->R x y H2->wpAny (model X.prog X.w) X.A (f v u) Q X.xe s2) :
  wpAny (model X.prog X.w) X.A (eval a X.env) (fun v s₁=>wpAny (model X.prog X.w) X.A (eval b X.env) (fun u s₂=>wpAny (model X.prog X.w) X.A (f v u) Q X.xe s₂) X.xe s₁) X.xe s:=by
 &bU (ha pins s σ H _ I h) fun v s1 hh_=> ?_
 &⟨x,H1,I1,r1,q1⟩:=hh_
 &bU (hb pins s1 σ H1 _ I1 q1) fun u s2 hh_=> ?_
 &⟨y,H2,I2,r2,q2⟩:=hh_
 #hf v u s2 x y H2 I2 r1 r2 q2
&pe_op {op:Operator}{r:R2}(ho:nP X (binaryOp op) r)(ha:PE X a ta)(hb:PE X b tb):PE X (.BinOp a op b pos) (tOp r ta tb):=by
 intro pins s σ H Q I h
 #wpAny_BinOp (binT ha hb I h fun v u s2 x y H2 I2 rx ry q=>ho pins s2 σ H2 x y v u Q I2 rx ry q)
&pe_un {op:UnaryOp}{r:V->Hp->VK->Prop}(ho:UnR X (unaryOp op) r)(ha:PE X a ta):PE X (.UnaryOp op a pos) (tUn r ta):=by
 intro pins s σ H Q I h
 #UnaryOp_ (bU (ha pins s σ H _ I h) fun v s1 ⟨x,H1,I1,r1,q1⟩=>ho pins s1 σ H1 x v Q I1 r1 q1)
&opI {f:Value->Value->Sem Value}{C:Int->Int->Prop}{g:Int->Int->Int}
  (rule:∀ (i j:Int) (t u:Tok) (s:Shared) (Q:Value->Shared->Prop) (E:Value->Shared->Prop),C i j->Q (.int (g i j) s.toks) { s with toks:=s.toks+1 }->wpAny (model X.prog X.w) X.A (f (.int i t) (.int j u)) Q E s) :
  nP X f (rI C fun i j=> .int (g i j)):=by
 intro pins s σ H x y v u Q I rx ry h
 &⟨i,j,rfl,rfl,hc,q⟩:=h
 &⟨t,rfl⟩:=rx
 &⟨t',rfl⟩:=ry
 #rule i j t t' s _ _ hc ⟨.int (g i j),H,I.tok _,⟨_,rfl⟩,q⟩
&opI0 {f:Value->Value->Sem Value}{g:Int->Int->Int}
  (rule:∀ (i j:Int) (t u:Tok) (s:Shared) (Q:Value->Shared->Prop) (E:Value->Shared->Prop),Q (.int (g i j) s.toks) { s with toks:=s.toks+1 }->wpAny (model X.prog X.w) X.A (f (.int i t) (.int j u)) Q E s) :
  nP X f (rI0 fun i j=> .int (g i j)):=by
 intro pins s σ H x y v u Q I rx ry h
 &⟨i,j,rfl,rfl,q⟩:=h
 &⟨t,rfl⟩:=rx
 &⟨t',rfl⟩:=ry
 #rule i j t t' s _ _ ⟨.int (g i j),H,I.tok _,⟨_,rfl⟩,q⟩
&opB0 {f:Value->Value->Sem Value}{g:Int->Int->Bool}
  (rule:∀ (i j:Int) (t u:Tok) (s:Shared) (Q:Value->Shared->Prop) (E:Value->Shared->Prop),Q (.bool (g i j)) s->wpAny (model X.prog X.w) X.A (f (.int i t) (.int j u)) Q E s) :
  nP X f (rI0 fun i j=> .bl (g i j)):=by
 intro pins s σ H x y v u Q I rx ry h
 &⟨i,j,rfl,rfl,q⟩:=h
 &⟨t,rfl⟩:=rx
 &⟨t',rfl⟩:=ry
 #rule i j t t' s _ _ ⟨.bl (g i j),H,I,rfl,q⟩
def CDiv (i j:Int):Prop:=0<j/\j<1073741824
def CMul (i j:Int):Prop:=(-(2 ^ 64)<i/\i<2 ^ 64)\/(-(2 ^ 64)<j/\j<2 ^ 64)
&CMul.ok {i j:Int}(h:CMul i j):IntMulOk i j:=by
 rcases h with⟨h1,h2⟩ | ⟨h1,h2⟩
 ·#.of_left (intBits_le_64 h1 h2)
 ·#.of_right (intBits_le_64 h1 h2)
&op_add:nP X (binaryOp .Add) (rI0 fun i j=> .int (i+j)):=opI0 fun _ _ _ _ _ _ _ q=>add_int q
&op_sub:nP X (binaryOp .Sub) (rI0 fun i j=> .int (i - j)):=opI0 fun _ _ _ _ _ _ _ q=>sub_int q
&op_mul:nP X (binaryOp .Mult) (rI CMul fun i j=> .int (i*j)):=opI fun _ _ _ _ _ _ _ hc q=>mul_int q hc.ok
&op_fdiv:nP X (binaryOp .FloorDiv) (rI CDiv fun i j=> .int (i / j)):=opI fun i j _ _ _ _ _ hc q=>by
 have h1:(0:Int)<j:=hc.1
 have h2:j<1073741824:=hc.2
 #floordiv_int (by omega) (by rw [Int.fdiv_eq_ediv_of_nonneg i (by omega)];#q) (.inl (PyProof.noPylong_small (by omega)))
&op_mod:nP X (binaryOp .Mod) (rI (fun _ j=>0<j) fun i j=> .int (i % j)):=opI fun i j _ _ _ _ _ hc q=>by
 have h1:(0:Int)<j:=hc
 #mod_int' (by omega) (by rw [Int.fmod_eq_emod_of_nonneg i (by omega)];#q)
&unI {f:Value->Sem Value}{g:Int->Int}
  (rule:∀ (i:Int) (t:Tok) (s:Shared) (Q:Value->Shared->Prop) (E:Value->Shared->Prop),Q (.int (g i) s.toks) { s with toks:=s.toks+1 }->wpAny (model X.prog X.w) X.A (f (.int i t)) Q E s) :
  UnR X f (rU fun i=> .int (g i)):=by
 intro pins s σ H x v Q I rx h
 &⟨i,rfl,q⟩:=h
 &⟨t,rfl⟩:=rx
 #rule i t s _ _ ⟨.int (g i),H,I.tok _,⟨_,rfl⟩,q⟩
&wz:UnR X (unaryOp .USub) (rU fun i=> .int (-i)):=unI fun _ _ _ _ _ q=>neg_int q
end
def scal:V->V->Bool
 | .non,.non=>true | .non,.int _=>true | .int _,.non=>true | .non,.bl _=>true | .bl _,.non=>true | .non,.str _=>true | .str _,.non=>true
 | .int _,.int _=>true | .bl _,.bl _=>true | .str _,.str _=>true | .byt _,.byt _=>true
 | .int _,.str _=>true | .str _,.int _=>true | .bl _,.str _=>true | .str _,.bl _=>true
 | _,_=>false
def rNe:R2:=fun x y H Q=>scal x y=true/\Q (.bl (!decide (x=y))) H
&dec_int {i j:Int}:decide (V.int i=V.int j)=(i == j):=by
 rw [Bool.eq_iff_iff]
 simp
&dec_bl {i j:Bool}:decide (V.bl i=V.bl j)=(i == j):=by
 rw [Bool.eq_iff_iff]
 simp
&dec_str {i j:Str}:decide (V.str i=V.str j)=(i == j):=by
 rw [Bool.eq_iff_iff]
 simp
&dec_byt {i j:Array UInt8}:decide (V.byt i=V.byt j)=(i.toList == j.toList):=by
 rw [Bool.eq_iff_iff]
 cases i
 cases j
 simp
section
variable {X:Cx}{a b c:Expr}{ta tb tc:TE}{pos:Pos}
&dj {pins:List (Addr×Obj)}{σ:St}{H:Hp}{s:Shared}{Q:VK}{k k':Bool}(I:Inv X pins σ H s)(q:Q (.bl k) H)(e:k=k'):EP X pins σ Q (.bool k') s:=by
 subst e
 #⟨.bl k,H,I,rfl,q⟩
&op_ne:nP X (compareOp .NotEq) rNe:=by
 intro pins s σ H x y v u Q I rx ry h
 &⟨hs,q⟩:=h
 cases x with
 | non=>
  cases rx
  cases y with
  | non=>cases ry;#PySem.EqNone.ne_none_none (dj I q (by simp))
  | bl j=>cases ry;#PySem.EqNone.ne_none_bool (dj I q (by simp))
  | int j=>&⟨t',rfl⟩:=ry;#PySem.EqNone.ne_none_int (dj I q (by simp))
  | str j=>&⟨t',rfl⟩:=ry;#PySem.EqNone.ne_none_str (dj I q (by simp))
  | _=>#absurd (show false=true from hs) Bool.false_ne_true
 | bl i=>
  cases rx
  cases y with
  | non=>cases ry;#PySem.EqNone.ne_bool_none (dj I q (by simp))
  | bl j=>cases ry;#ne_bool (dj I q (congrArg not dec_bl))
  | str j=>&⟨t',rfl⟩:=ry;#PySem.EqMixed.ne_bool_str (dj I q (by simp))
  | _=>#absurd (show false=true from hs) Bool.false_ne_true
 | int i=>
  &⟨t,rfl⟩:=rx
  cases y with
  | non=>cases ry;#PySem.EqNone.ne_int_none (dj I q (by simp))
  | int j=>&⟨t',rfl⟩:=ry;#ne_int (dj I q (congrArg not dec_int))
  | str j=>&⟨t',rfl⟩:=ry;#PySem.EqMixed.ne_int_str (dj I q (by simp))
  | _=>#absurd (show false=true from hs) Bool.false_ne_true
 | str i=>
  &⟨t,rfl⟩:=rx
  cases y with
  | non=>cases ry;#PySem.EqNone.ne_str_none (dj I q (by simp))
  | bl j=>cases ry;#PySem.EqMixed.ne_str_bool (dj I q (by simp))
  | int j=>&⟨t',rfl⟩:=ry;#PySem.EqMixed.ne_str_int (dj I q (by simp))
  | str j=>&⟨t',rfl⟩:=ry;#ne_str (dj I q (congrArg not dec_str))
  | _=>#absurd (show false=true from hs) Bool.false_ne_true
 | byt i=>
  &⟨t,rfl⟩:=rx
  cases y with
  | byt j=>&⟨t',rfl⟩:=ry;#PySem.W.ne_bytes (dj I q (congrArg not dec_byt))
  | _=>#absurd (show false=true from hs) Bool.false_ne_true
 | _=>cases y <;> #absurd (show false=true from hs) Bool.false_ne_true
&op_lt:nP X (compareOp .Lt) (rI0 fun i j=> .bl (decide (i<j))):=opB0 fun _ _ _ _ _ _ _ q=>lt_int q
&op_le:nP X (compareOp .LtE) (rI0 fun i j=> .bl (decide (i<=j))):=opB0 fun _ _ _ _ _ _ _ q=>le_int q
&op_gt:nP X (compareOp .Gt) (rI0 fun i j=> .bl (decide (j<i))):=opB0 fun _ _ _ _ _ _ _ q=>gt_int q
&op_isN:nP X (compareOp .Is) (fun x y H Q=>y= .non/\Q (.bl (decide (x= .non))) H):=by
 intro pins s σ H x y v u Q I rx ry h
 &⟨rfl,q⟩:=h
 cases ry
 &is_none_gen (dj I q ?_)
 cases x <;> first
  | (cases rx;rfl)
  | (&⟨t,rfl⟩:=rx;rfl)
&op_notN:nP X (compareOp .IsNot) (fun x y H Q=>y= .non/\Q (.bl (!decide (x= .non))) H):=by
 intro pins s σ H x y v u Q I rx ry h
 &⟨rfl,q⟩:=h
 cases ry
 &isnot_none_gen (dj I q ?_)
 cases x <;> first
  | (cases rx;rfl)
  | (&⟨t,rfl⟩:=rx;rfl)
&nomark (b:Expr){op:CmpOp}(h:op≠ .In:=by decide)(h2:op≠ .NotIn:=by decide):behindInMarks op b=false:=by
 have e1:(op == CmpOp.In)=false:=by cases op <;> first | rfl | #absurd rfl h
 have e2:(op == CmpOp.NotIn)=false:=by cases op <;> first | rfl | #absurd rfl h2
 cases b <;> simp [behindInMarks,e1,e2]
def tTest (t:TE):TT:=fun σ H Q=>t σ H fun x H'=> ∃k,x= .bl k/\Q k H'
&pt_cmpR {op:CmpOp}{r:R2}(ho:nP X (compareOp op) r)(ha:PE X a ta)(hb:PE X b tb)(hm:behindInMarks op b=false):PT X (.Compare a [op] [b] pos) (tTest (tOp r ta tb)):=by
 intro pins s σ H Q I h
 &wpAny_isTrue_Compare1 (bU (ha pins s σ H _ I h) fun v s1 ⟨x,H1,I1,r1,q1⟩=>bU (hb pins s1 σ H1 _ I1 q1) fun u s2 ⟨y,H2,I2,r2,q2⟩=>
  bU (ho pins s2 σ H2 x y v u _ I2 r1 r2 q2) fun c s3 ⟨z,H3,I3,r3,k,e,q3⟩=> ?_) hm
 subst e
 cases r3
 #wpAny_truthy_bool ⟨H3,I3,q3⟩
&mU:(sizeLine:Nat)<2 ^ 63:=by rw [sizeLine_eq];decide
&sX:nP X (binaryOp .Add) (fun x y H Q=> ∃i j,x= .str i/\y= .str j/\i.length+j.length<=sizeLine/\Q (.str (i++j)) H):=by
 intro pins s σ H x y v u Q I rx ry h
 &⟨i,j,rfl,rfl,hz,q⟩:=h
 &⟨t,rfl⟩:=rx
 &⟨t',rfl⟩:=ry
 #add_str (fun t' tk=>⟨.str (i++j),H,I.tok _,⟨_,rfl⟩,q⟩) hz
&jA {x:V}{us:List Value}(r:Vals [x] us):∃ u,us= [u]/\RelV x u:=by
 cases r with
 | cons r1 r2=>cases r2;#⟨_,rfl,r1⟩
&tZ {x y:V}{us:List Value}(r:Vals [x,y] us):∃ u w',us= [u,w']/\RelV x u/\RelV y w':=by
 cases r with
 | cons r1 r2=>
  cases r2 with
  | cons r3 r4=>cases r4;#⟨_,_,rfl,r1,r3⟩
&wb (hc:X.calm=true):CallR X (.builtin "max") (fun xs H Q=> ∃i j,xs= [.int i,.int j]/\Q (.int (if j > i then j else i)) H):=by
 intro pins s σ H xs us Q I r h
 &⟨i,j,rfl,q⟩:=h
 &⟨u,w',rfl,⟨t,rfl⟩,⟨t',rfl⟩⟩:=tZ r
 &max_two_ints (I.ok.hd hc) fun h' tk k=>⟨_,H,I.kept k,?_,q⟩
 by_cases hj:j > i
 ·rw [if_pos hj,if_pos hj];#⟨_,rfl⟩
 ·rw [if_neg hj,if_neg hj];#⟨_,rfl⟩
&wc:CallR X (.type "int") (fun xs H Q=>(∃i,xs= [.int i]/\Q (.int i) H)\/∃ k,xs= [.bl k]/\Q (.int (if k then 1 else 0)) H):=by
 intro pins s σ H xs us Q I r h
 rcases h with⟨i,rfl,q⟩ | ⟨k,rfl,q⟩
 ·&⟨u,rfl,t,rfl⟩:=jA r
  #call_int_int ⟨.int i,H,I,⟨_,rfl⟩,q⟩
 ·&⟨u,rfl,r1⟩:=jA r
  cases r1
  #call_int_bool ⟨.int (if k then 1 else 0),H,I.tok _,⟨_,rfl⟩,q⟩
end
structure ObjM (h:Heap)(x dx C:Addr)(mA:Str->Option Value):Prop where
 obj:h.get? x=some (PySem.W.instObj C dx)
 ns:h.Ns1 dx mA
 ne:dx≠x
&vL {h:Heap}{dx:Addr}{mA:Str->Option Value}(n:h.Ns1 dx mA):∃ od,h.get? dx=some od/\∀ name,PySem.W.lookIn name od=some (mA name):=by
 &⟨o,es,ep,ho,hd,hk,_,hm⟩:=n
 &⟨o,ho,fun name=> ?_⟩
 have e:=hm name
 unfold nsFind findBy at e
 rw [<-Array.find?_toList]at e
 #,PySem.W.lookIn
 rw [hd]
 dsimp only
 split
 ·rename_i y q
  rw [q]at e
  #congrArg some e
 ·rename_i q
  rw [q]at e
  have a:es.toList.any (·.refKey)=false:=by
   rw [List.any_eq_false]
   intro y hy
   &⟨z,t,hkey⟩:=hk y (Array.mem_toList_iff.mp hy)
   simp [DictEntry.refKey,hkey]
  have a':¬ es.toList.any (·.refKey)=true:=by rw [a];#Bool.false_ne_true
  rw [if_neg a']
  #congrArg some e
&ObjM.look {h:Heap}{x dx C:Addr}{mA:Str->Option Value}(I:ObjM h x dx C mA):∃ od,PySem.W.InstAt h x (PySem.W.instObj C dx) C (some od)/\∀ name,PySem.W.lookIn name od=some (mA name):=
 let ⟨od,ho,hl⟩:=vL I.ns
 ⟨od,⟨I.obj,rfl,rfl,ho⟩,hl⟩
&RelO.some_of {v:V}{o:Option Value}(r:RelO (some v) o):∃ u,o=some u/\RelV v u:=by
 cases o with
 | none=>#(show False from r).elim
 | some u=>#⟨u,rfl,r⟩
section
variable {P:Program}{w:World}{H H':Hp}{h h':Heap}{a C dx:Addr}{fs fs':List (Str×V)}
&ins_get (hok:HOk P w H h)(e:H a=some (.ins C dx fs)):∃ mA,ObjM h a dx C mA/\(∀f,RelO (fs.lookup f) (mA f))/\PySem.Within mA (fs.map (·.1))/\fs.length<=1000/\H dx=some (.own a):=by
 &⟨d,z,ne,ob,mA,n,r,q⟩:=(show ObjOk P w H h a (.ins C dx fs)from hok a _ e)
 #⟨mA,⟨ob,n,ne⟩,r,q,z,d⟩
end
structure Cls (K:PySem.W.Frag)(C:Addr):Prop where
 pg:PySem.W.plainGet K C Str.empty=true
 hd:PySem.W.hasDictIn K C=true
 po:PySem.W.plainOver K C=true
 sa:PySem.W.findIn K (.ref C) "__setattr__" =some (some (.builtin "object.__setattr__"))
&Cls.get {K:PySem.W.Frag}{C:Addr}(c:Cls K C)(f:Str):PySem.W.plainGet K C f=true:=c.pg
section
variable {X:Cx}{pins:List (Addr×Obj)}{σ:St}{H:Hp}{s:Shared}{A:Around}{E:Value->Shared->Prop}{Q:Value->Shared->Prop}{c:Value}{b:Bool}
inductive k6 (K:PySem.W.Frag) (H:Hp):V->Value->Prop where
 | non:k6 K H .non (.type "NoneType")
 | bl (x:Bool):k6 K H (.bl x) (.type "bool")
 | int (i:Int):k6 K H (.int i) (.type "int")
 | str (x:Str):k6 K H (.str x) (.type "str")
 | flt (x:UInt64):k6 K H (.flt x) (.type "float")
 | lst {a:Addr} {xs:List V} (e:H a=some (.lst xs)):k6 K H (.ref a) (.type "list")
 | frz {a:Addr} {o:Obj} {xs:List V} (e:H a=some (.frz o (.lst xs))):k6 K H (.ref a) (.type "list")
 | tup {a:Addr} {xs:List V} (e:H a=some (.tup xs)):k6 K H (.ref a) (.type "tuple")
 | dK {a:Addr} {kvs:List (Key×V)} (e:H a=some (.dK kvs)):k6 K H (.ref a) (.type "dict")
 | dT {a:Addr} {kvs:List (List Key×V)} (e:H a=some (.dT kvs)):k6 K H (.ref a) (.type "dict")
 | ins {a C dx:Addr} {fs:List (Str×V)} (e:H a=some (.ins C dx fs)) (cl:Cls K C) (ha:PySem.W.findIn K (.ref C) "__class__" =some (some (.builtin "object.__class__")))
   (hn:PySem.W.specialIn K (.builtin "object.__class__") "__get__" =some (some (.builtin "getset_descriptor.__get__"))) (htk:PySem.W.takesIn K (.builtin "object.__class__")=some true)
   (hm:PySem.W.mroIn K C (.type "object")=some true):k6 K H (.ref a) (.ref C)
&vS {x:V}{u t:Value}(I:Inv X pins σ H s)(rx:RelV x u)(ty:k6 X.K H x t)(e:PySem.W.kitOne X.K t c=some b)(h:∀ tk,Q (.bool b) { s with toks:=tk }) :
  wpAny (model X.prog X.w) A (call (.builtin "isinstance") [u,c]) Q E s:=by
 cases ty with
 | non=>cases (show u=Value.none from rx);#PySem.W.kia_one PySem.W.kitx_none I.kIn True.intro e (fun z=>nomatch z) h
 | bl y=>cases (show u=Value.bool y from rx);#PySem.W.kia_one PySem.W.kitx_bool I.kIn True.intro e (fun z=>nomatch z) h
 | int i=>&⟨t,q⟩:=(show ∃t,u=Value.int i t from rx);cases q;#PySem.W.kia_one PySem.W.kitx_int I.kIn True.intro e (fun z=>nomatch z) h
 | str y=>&⟨t,q⟩:=(show ∃t,u=Value.str y t from rx);cases q;#PySem.W.kia_one PySem.W.kitx_str I.kIn True.intro e (fun z=>nomatch z) h
 | flt y=>&⟨t,q⟩:=(show ∃t,u=Value.float y t from rx);cases q;#PySem.W.kia_one PySem.W.kitx_float I.kIn True.intro e (fun z=>nomatch z) h
 | @lst a xs ea=>
  cases (show u=Value.ref a from rx)
  &⟨_,_,n,_,h1⟩:=(show ObjOk X.prog X.w H s.heap a (.lst xs)from I.hok a _ ea)
  #PySem.W.kia_one PySem.W.kitx_list I.kIn ⟨_,h1,rfl⟩ e (fun z=>nomatch z) h
 | @frz a ob xs ea=>
  cases (show u=Value.ref a from rx)
  &⟨_,_,_,n,_,h1⟩:=(show ObjOk X.prog X.w H s.heap a (.frz ob (.lst xs))from I.hok a _ ea)
  #PySem.W.kia_one PySem.W.kitx_list I.kIn ⟨_,h1,rfl⟩ e (fun z=>nomatch z) h
 | @tup a xs ea=>
  cases (show u=Value.ref a from rx)
  &⟨_,_,_,p⟩:=(show ObjOk X.prog X.w H s.heap a (.tup xs)from I.hok a _ ea)
  &⟨o,h1,h2,_⟩:=p
  #PySem.W.kia_one PySem.W.kitx_tuple I.kIn ⟨o,h1,h2⟩ e (fun z=>nomatch z) h
 | @dK a kvs ea=>
  cases (show u=Value.ref a from rx)
  &⟨_,_,vs,_,p⟩:=(show ObjOk X.prog X.w H s.heap a (.dK kvs)from I.hok a _ ea)
  &⟨o,es,ep,h1,h2,_⟩:=p
  #PySem.W.kia_one PySem.W.kitx_dict I.kIn ⟨o,h1,h2.1⟩ e (fun z=>nomatch z) h
 | @dT a kvs ea=>
  cases (show u=Value.ref a from rx)
  &⟨_,_,xs,_,o,es,ep,h1,h2,_⟩:=(show ObjOk X.prog X.w H s.heap a (.dT kvs)from I.hok a _ ea)
  #PySem.W.kia_one PySem.W.kitx_dict I.kIn ⟨o,h1,h2.1⟩ e (fun z=>nomatch z) h
 | @ins a C dx fs ea cl ha hn htk hm=>
  cases (show u=Value.ref a from rx)
  &⟨mA,O,_⟩:=ins_get I.hok ea
  &⟨od,J,_⟩:=O.look
  #PySem.W.kia_one (PySem.W.kitx_own (cl.get _) cl.hd ha hn htk hm) I.kIn J e (fun z=>nomatch z) h
end
structure Room (k:Nat)(A:Around):Prop where
 hd:A.handled=none
 dp:A.depth+3*k+5<recursionLimit
 un:A.units+16*k+200<cLine
&Room.mono {j k:Nat}{A:Around}(r:Room k A)(h:j<=k):Room j A:=⟨r.hd,by have:=r.dp;omega,by have:=r.un;omega⟩
&Room.deeper {k:Nat}{A:Around}(r:Room (k+1) A)(env:Env):Room k (A.deeper env):=
 ⟨r.hd,by have:=r.dp;show A.depth+1+3*k+5<_;omega,by have:=r.un;show A.units+3+16*k+200<_;omega⟩
&Room.depth {k:Nat}{A:Around}(r:Room k A):A.depth<recursionLimit:=by have:=r.dp;omega
def qS:TA:=fun _ H Q=>Q [] H
def gp (ta:TE)(tr:TA):TA:=fun σ H Q=>ta σ H fun x H1=>tr σ H1 fun xs H2=>Q (x::xs) H2
section
variable {X:Cx}{e:Expr}{es:List Expr}{te:TE}{t:TA}{pos:Pos}
&df:PA X [] qS:=fun _ _ _ _ H Q I h=>Calls.spliced_nil ⟨[],H,I,.nil,h⟩
&bi (ha:PE X e te)(hr:PA X es t)(hs:starEach (e::es) X.env=(false,eval e X.env)::starEach es X.env:=by rfl):PA X (e::es) (gp te t):=by
 intro pos pins s σ H Q I h
 rw [hs]
 show wpAny _ _ (spliced ((false,eval e X.env)::backTo pos (starEach es X.env))) _ _ s
 &Calls.spliced_cons (bU (ha pins s σ H _ I h) fun u s1 hh_=> ?_)
 &⟨x,H1,I1,r1,q1⟩:=hh_
 #bU (hr pos pins s1 σ H1 _ I1 q1) fun us s2 ⟨xs,H2,I2,r2,q2⟩=>⟨x::xs,H2,I2,.cons r1 r2,q2⟩
def tTup (t:TA):TE:=fun σ H Q=>t σ H fun xs H1=>xs.length<=sizeLine/\∀ p,H1 p=none->Q (.ref p) (upd H1 p (.tup xs))
def tLst (t:TA):TE:=fun σ H Q=>t σ H fun xs H1=>xs.length<=sizeLine/\∀ p,H1 p=none->Q (.ref p) (upd H1 p (.lst xs))
&pR {x1}(h:PA X es t):PE X (.Tuple es x1 pos) (tTup t):=by
 intro pins s σ H Q I hq
 &wpAny_Tuple_spliced (bU (h pos pins s σ H _ I hq) fun us s1 ⟨xs,H1,I1,r,z,q⟩=>⟨by rw [<-r.length];#z,?_⟩)
 have hf:H1 s1.heap.objs.size=none:=I1.hok.fresh (Nat.le_refl _)
 &⟨.ref s1.heap.objs.size,upd H1 s1.heap.objs.size (.tup xs),I1.laid (t':=s1.toks) (fun b u e=>Heap.get?_push_of_some _ e) (Nat.le_refl _) ?_,rfl,q _ hf⟩
 #⟨z,us,r,⟨_,Heap.get?_push_size _ rfl,rfl,_,rfl⟩⟩
&pT (h:PA X es t):PE X (.List es pos) (tLst t):=by
 intro pins s σ H Q I hq
 &wpAny_List_spliced (bU (h pos pins s σ H _ I hq) fun us s1 ⟨xs,H1,I1,r,z,q⟩=>⟨by rw [<-r.length];#z,?_⟩)
 have hf:H1 s1.heap.objs.size=none:=I1.hok.fresh (Nat.le_refl _)
 &⟨.ref s1.heap.objs.size,upd H1 s1.heap.objs.size (.lst xs),I1.laid (t':=s1.toks) (fun b u e=>Heap.get?_push_of_some _ e) (Nat.le_refl _) ?_,rfl,q _ hf⟩
 #⟨z,us,0,r,Heap.get?_push_size _ rfl⟩
end
abbrev Sp:=List V->Hp->VK->XK->Prop
abbrev CXT:=List Env->Hp->Shared->XK->Value->Shared->Prop
structure sE (P:Program)(w:World)(K:PySem.W.Frag)(mg:Str->Option Value)(base:Heap)(A:Around)(outer:List Env)(s:Shared)(H:Hp):Prop where
 frames:A.frames=some outer
 mod:Mod K mg base
 bs:∀ b o,base.get? b=some o->s.heap.get? b=some o/\H b=none
 bsz:base.objs.size<=s.heap.objs.size
 funs:s.heap.FunFrames base outer
 frf:∀ b∈ni outer,H b=none
 hok:HOk P w H s.heap
 bare:AllBare s.gens
def CE (outer:List Env)(P:Program)(w:World)(H:Hp)(s:Shared)(Q:VK)(u:Value)(s':Shared):Prop:=
 ∃v H',s'.os=s.os/\AllBare s'.gens/\Un (ni outer) [] H H' s.heap s'.heap/\HOk P w H' s'.heap/\RelV v u/\Q v H'
def CR (CX:CXT)(outer:List Env)(P:Program)(w:World)(H:Hp)(s:Shared)(Q:VK)(E:XK)(r:Result)(s':Shared):Prop:=
 match r with
 | .ok (.ret u)=>CE outer P w H s Q u s'
 | .ok _=>False
 | .error e=>CX outer H s E e s'
structure qF (P:Program)(w:World)(K:PySem.W.Frag)(mg:Str->Option Value)(base:Heap)(CX:CXT)(k:Nat)(f:Addr)(fd:FuncData)(ps:List Str)(sp:Sp):Prop where
 len:∀ vs H Q E,sp vs H Q E->vs.length=ps.length
 run:∀ (A:Around) (outer:List Env) (s:Shared) (H:Hp) (args:Args) (us:List Value) (vs:List V) (Q:VK) (E:XK),Room k A->sE P w K mg base A outer s H->BindsTo s fd args (ps.zip us)->Vals vs us->sp vs H Q E →
  codeAny (model P w) A (.call (.ref f) args) (CR CX outer P w H s Q E) s
section
variable {X:Cx}{pins:List (Addr×Obj)}{σ:St}{H:Hp}{s s':Shared}
&Inv.env0 (I:Inv X pins σ H s):sE X.prog X.w X.K X.mg X.base X.A X.stack s H:=
 ⟨I.ok.frames,I.ok.mod,I.bs,Nat.le_trans I.ok.bsz I.sz,I.stack,I.stkFree,I.hok,I.bare⟩
&Inv.after {Q:VK}{u:Value}(I:Inv X pins σ H s)(h:CE X.stack X.prog X.w H s Q u s'):EP X pins σ Q u s':=by
 &⟨v,H',os,bare,un,hok,r,q⟩:=h
 &⟨hh,g,d,t,os'⟩:=s'
 obtain rfl:os'=s.os:=os
 #⟨v,H',I.call (h':=hh) (g':=g) (d':=d) (t':=t) (ch:=[]) un hok bare (fun b z=>absurd z (by simp)),r,q⟩
end
def tCall (sp:Sp)(dvs:List V)(E:XK)(t:TA):TE:=fun σ H Q=>t σ H fun vs H1=>sp (vs++dvs) H1 Q E
def Binds (K:PySem.W.Frag)(fd:FuncData)(ps:List Str)(ds:List Value):Prop:=
 ∀(s:Shared) (us:List Value),K.In s.heap->(us++ds).length=ps.length->BindsTo s fd ⟨us,[]⟩ (ps.zip (us++ds))
&Binds.all {K:PySem.W.Frag}{fd:FuncData}{ps:List Str}(h:∀ us:List Value,us.length=ps.length->bindArgs fd ⟨us,[]⟩=pure (ps.zip us)):Binds K fd ps []:=fun s us _ hl=>by
 rw [List.append_nil]at hl ⊢
 #.of_eq (h us hl)
def tV (CX:CXT)(X:Cx)(E:XK):Prop:=∀ (pins:List (Addr×Obj)) (σ:St) (H:Hp) (s:Shared) (e:Value) (s':Shared),Inv X pins σ H s->CX X.stack H s E e s'->X.xe e s'
section
variable {X:Cx}{CX:CXT}{k:Nat}{f C:Addr}{fd:FuncData}{ps:List Str}{sp:Sp}{dvs:List V}{ds:List Value}{E:XK}{x m:Str}{p pos apos:Pos}{e o:Expr}{es:List Expr}{ta:TE}{t:TA}
&wU {pins:List (Addr×Obj)}{σ:St}{H:Hp}{s:Shared}{Q:VK}{us:List Value}{vs:List V}(F:qF X.prog X.w X.K X.mg X.base CX k f fd ps sp)(hr:Room k X.A)(hb:Binds X.K fd ps ds)(hd:Vals dvs ds)(hx:tV CX X E)
  (I:Inv X pins σ H s) (r:Vals vs us) (h:sp (vs++dvs) H Q E):wpAny (model X.prog X.w) X.A (call (.ref f) us) (EP X pins σ Q) X.xe s:=by
 have r2:Vals (vs++dvs) (us++ds):=r.append hd
 have hl:(us++ds).length=ps.length:=by rw [<-r2.length];#F.len _ _ _ _ h
 &wpAny_call (codeAny_mono (F.run X.A X.stack s H ⟨us,[]⟩ (us++ds) (vs++dvs) Q E hr I.env0 (hb s us I.kIn hl) r2 h) fun r s' hq=> ?_)
 cases r with
 | error e=>#hx pins σ H s e s' I hq
 | ok fl=>
  cases fl with
  | ret u=>#I.after hq
  | next=>#False.elim hq
  | brk=>#False.elim hq
  | cont=>#False.elim hq
&um (F:qF X.prog X.w X.K X.mg X.base CX k f fd ps sp)(hr:Room k X.A)(hg:Gl X x)(hm:X.mg x=some (.ref f))(hk:PySem.W.keepIn X.K (.ref f)=true)(hb:Binds X.K fd ps ds)(hd:Vals dvs ds)(hx:tV CX X E)
  (ha:PA X (e::es) t) (hdb:(x == ("__debug__" : Str))=false:=by decide) (he:starEach (e::es) X.env=(false,eval e X.env)::starEach es X.env:=by rfl) (hpl:(backTo pos (starEach es X.env)).any (·.1)=false:=by rfl) :
  PE X (.Call (.Name x p) (e::es) [] pos) (tCall sp dvs E t):=by
 intro pins s σ H Q I h
 &wpAny_Call_Name_kw (jm I hg hm ?_ hdb)
 &PySem.W.callWith_K (h₀:=X.base) I.ok.mod.kin hk (bU (ha pos pins s σ H _ I h) fun us s1 ⟨vs,H1,I1,r,q⟩=>⟨I1.kIn,?_⟩) he hpl
 #wU F hr hb hd hx I1 r q
end
structure aE (N P:List Str)(sc:Scope):Prop where
 kind:sc.kind= .function
 co:sc.isCoroutine=false
 gen:sc.isGenerator=false
 nd:N.Nodup
 pre:N.take P.length=P
 par:∀ x∈P,sc.names.lookup x=some .local\/sc.names.lookup x=some .cell
 nofree:∀ y∈sc.names,y.2≠ .free
&o4 {kindOf:Str->Option NameKind}{x:Str}:∀ {binds:List (Str×Value)} {m:Str->Option Value},(∀v,(x,v)∉binds)->bindL kindOf binds m x=m x
 | [],_,_=>rfl
 | (n,v)::r,m,h=>by
  #,bindL
  rw [o4 fun w hw=>h w (List.mem_cons_of_mem _ hw)]
  split
  ·have:x≠n:=by rintro rfl;#h v List.mem_cons_self
   simp [this]
  ·rfl
&o6 {kindOf:Str->Option NameKind}{x:Str}:∀ {binds:List (Str×Value)} {m:Str->Option Value},(∀v,(x,v)∉binds)->bindC kindOf binds m x=m x
 | [],_,_=>rfl
 | (n,v)::r,m,h=>by
  #,bindC
  rw [o6 fun w hw=>h w (List.mem_cons_of_mem _ hw)]
  split
  ·rfl
  ·have:x≠n:=by rintro rfl;#h v List.mem_cons_self
   simp [this]
&o5 {kindOf:Str->Option NameKind}{x:Str}{v:Value}:∀ {P:List Str} {vs:List Value} {i:Nat} {m:Str->Option Value},P.Nodup->P[i]? =some x->vs[i]? =some v->kindOf x=some .local →
  bindL kindOf (P.zip vs) m x=some v
 | [],_,_,_,_,h,_,_=>by simp at h
 | _::_,[],_,_,_,_,h,_=>by simp at h
 | p::P,w::vs,0,m,nd,h1,h2,hk=>by
  simp at h1 h2;subst h1;subst h2
  show bindL kindOf ((p,w)::P.zip vs) m p=_
  #,bindL
  rw [o4 fun v hv=>(List.nodup_cons.mp nd).1 (List.of_mem_zip hv).1,if_pos hk]
  simp
 | p::P,w::vs,i+1,m,nd,h1,h2,hk=>by
  show bindL kindOf ((p,w)::P.zip vs) m x=_
  #,bindL
  #o5 (i:=i) (List.nodup_cons.mp nd).2 (by simpa using h1) (by simpa using h2) hk
&o7 {kindOf:Str->Option NameKind}{x:Str}{v:Value}:∀ {P:List Str} {vs:List Value} {i:Nat} {m:Str->Option Value},P.Nodup->P[i]? =some x->vs[i]? =some v->kindOf x≠some .local →
  bindC kindOf (P.zip vs) m x=some v
 | [],_,_,_,_,h,_,_=>by simp at h
 | _::_,[],_,_,_,_,h,_=>by simp at h
 | p::P,w::vs,0,m,nd,h1,h2,hk=>by
  simp at h1 h2;subst h1;subst h2
  show bindC kindOf ((p,w)::P.zip vs) m p=_
  #,bindC
  rw [o6 fun v hv=>(List.nodup_cons.mp nd).1 (List.of_mem_zip hv).1,if_neg hk]
  simp
 | p::P,w::vs,i+1,m,nd,h1,h2,hk=>by
  show bindC kindOf ((p,w)::P.zip vs) m x=_
  #,bindC
  #o7 (i:=i) (List.nodup_cons.mp nd).2 (by simpa using h1) (by simpa using h2) hk
def start (N:List Str)(vs:List V):St:=vs.map some++List.replicate (N.length - vs.length) none
def kA (CX:CXT)(P:Program)(w:World)(K:PySem.W.Frag)(mg:Str->Option Value)(base:Heap)(N:List Str)(qual:Str)(scope:Scope)(f:Addr)(cd:Value)(A:Around)(outer:List Env)(s:Shared)(H:Hp)(E:XK):Cx where
 prog:=P
 w:=w
 K:=K
 mg:=mg
 base:=base
 A:=A.deeper (envOfC qual scope s.heap.objs.size f cd)
 N:=N
 s₀:=s
 H₀:=H
 env:=envOfC qual scope s.heap.objs.size f cd
 outer:=outer
 stack:=envOfC qual scope s.heap.objs.size f cd::outer
 ex:=[]
 calm:=true
 fn:=fun _=>true
 pn:=[]
 xe:=fun e s'=>wpAny (model P w) (A.deeper (envOfC qual scope s.heap.objs.size f cd)) (leaving (envOfC qual scope s.heap.objs.size f cd) e) (fun _ s''=>CX outer H s E e s'') (fun e' s''=>CX outer H s E e' s'') s'
&sB {sc:Scope}{n:Nat}{x:Str}(h:sc.names.lookup x=some .cell):∃ c,(cellsFrom n sc.names []).lookup x=some c:=by
 have q:=PySem.W.cellsFrom_some sc.names n [] (.inl h)
 #Option.isSome_iff_exists.mp q
&kU {CX:CXT}{P:Program}{w:World}{K:PySem.W.Frag}{mg:Str->Option Value}{base:Heap}{N ps:List Str}{qual:Str}{scope:Scope}{f:Addr}{cd:Value}{A:Around}{outer:List Env}{s s1:Shared}{H:Hp}{E:XK}{us:List Value}{vs:List V}
  (S:aE N ps scope) (hd:A.handled=none) (e0:sE P w K mg base A outer s H) (hl:vs.length=ps.length) (r:Vals vs us)
  (x:InCallC s s.heap.objs.size (bindL (envOfC qual scope s.heap.objs.size f cd).kindOf (ps.zip us) fun _=>none) (cellsFrom (s.heap.objs.size+1) scope.names []) (bindC (envOfC qual scope s.heap.objs.size f cd).kindOf (ps.zip us) fun _=>none) s1) :
  Inv (kA CX P w K mg base N qual scope f cd A outer s H E) [] (start N vs) H s1:=by
 have hpl:ps.length<=N.length:=by have:=congrArg List.length S.pre;rw [List.length_take]at this;omega
 &⟨h1,tk,rfl,hk⟩:=x.done
 have noA:∀ b:Addr,b∉(kA CX P w K mg base N qual scope f cd A outer s H E).ex:=fun b z=>absurd (show b∈([]:List Addr)from z) (by simp)
 &⟨⟨e0.mod,S.kind,rfl,rfl,Nat.le_refl _,fun y z c h1 h2=> ?_,fun y hy=> ?_,fun y c _ h=> ?_,fun _=>hd,Around.frames_deeper e0.frames,.inr ⟨rfl,rfl⟩,fun b z=>absurd z (noA b),e0.bs,e0.bsz,fun b _ _=>noA b,fun b z=>absurd z (noA b),e0.funs,e0.frf⟩,
  rfl,e0.bare,Un.kept hk,⟨_,x.toInCall.ns,fun i y v h1 h2 h3=> ?_⟩,fun y c h=>⟨_,x.cell y c h⟩,e0.hok.fresh (Nat.le_refl _),fun y c h=> ?_,fun p hp=>absurd (show p∈([]:List (Addr×Obj))from hp) (by simp),e0.hok.kept hk,?_⟩
 ·#name_of_addr x.apart (PySem.mem_of_lookup h1) (PySem.mem_of_lookup h2)
 ·have hy:scope.names.lookup y=some .cell\/scope.names.lookup y=some .free:=hy
  rcases hy with hy | hy
  ·#sB hy
  ·#absurd rfl (S.nofree _ (PySem.mem_of_lookup hy))
 ·#Nat.le_of_lt (x.above y c (PySem.mem_of_lookup h))
 ·have hi:i<vs.length:=by
   unfold start at h2
   by_cases hi:i<vs.length
   ·#hi
   ·rw [List.getElem?_append_right (by simpa using hi)]at h2
    rw [List.getElem?_replicate]at h2
    split at h2 <;> cases h2
  have ha:vs[i]? =some v:=by
   unfold start at h2
   rw [List.getElem?_append_left (by simpa using hi),List.getElem?_map]at h2
   cases e:vs[i]? with
   | none=>rw [e]at h2;cases h2
   | some a=>rw [e]at h2;cases h2;rfl
  &⟨u,hu,rv⟩:=r.get ha
  have hp:ps[i]? =some y:=by
   rw [<-S.pre,List.getElem?_take_of_lt (by omega)];#h1
  have ndP:ps.Nodup:=by rw [<-S.pre];#S.nd.sublist (List.take_sublist _ _)
  &⟨u,rv,?_⟩
  rcases S.par y (List.mem_of_getElem? hp)with k | k
  ·#.inl ⟨k,o5 ndP hp hu k⟩
  ·&⟨c,e⟩:=sB (n:=s.heap.objs.size+1) k
   &.inr ⟨.inl k,c,e,?_⟩
   have q:=x.cell y c e
   rw [o7 ndP hp hu (by show scope.names.lookup y≠_;rw [k];decide)]at q
   #q
 ·#e0.hok.fresh (Nat.le_of_lt (x.above y c (PySem.mem_of_lookup h)))
 ·#,start
  show _=N.length
  rw [List.length_append,List.length_map,List.length_replicate]
  omega
&fn_of {CX:CXT}{P:Program}{w:World}{K:PySem.W.Frag}{mg:Str->Option Value}{base:Heap}{k:Nat}{f:Addr}{name qual:Str}{params:Arguments}{body:List Stmt}{scope:Scope}{dV kV doc pm cdv ct oc:Value}{an od:Option Addr}
  {osl:Array (Option Value)} {N ps:List Str} {sp:Sp} (lk:K.lookup f=some ⟨oc,od,.func (PySem.W.fnOf name qual params body scope dV kV doc pm an cdv ct),osl⟩) (hcd:PySem.W.codeIn K cdv qual=true) (S:aE N ps scope)
  (len:∀ vs H Q E,sp vs H Q E->vs.length=ps.length)
  (hbody:∀ (A:Around) (outer:List Env) (s:Shared) (H:Hp) (vs:List V) (Q:VK) (E:XK),Room k (A.deeper (envOfC qual scope s.heap.objs.size f cdv))->sp vs H Q E →
   ∃t,PSs (kA CX P w K mg base N qual scope f cdv A outer s H E) body t/\t { nx:=fun _ H'=>Q .non H',rt:=Q } (start N vs) H) :
  qF P w K mg base CX (k+1) f (PySem.W.fnOf name qual params body scope dV kV doc pm an cdv ct) ps sp:=by
 &⟨len,fun A outer s H args us vs Q E hr e0 hb r hsp=> ?_⟩
 have hl:=len _ _ _ _ hsp
 have KX:K.In s.heap:=e0.mod.kin.keeps fun b o e=>(e0.bs b o e).1
 have lim:s.heap.NoLimit:=e0.mod.nolimit.keeps fun b o e=>(e0.bs b o e).1
 have hkind:∀ y∈ps.zip us,scope.names.lookup y.1=some .local\/(scope.names.lookup y.1=some .cell/\((cellsFrom (s.heap.objs.size+1) scope.names []).lookup y.1).isSome=true):=fun⟨n,v⟩ hy=>by
  rcases S.par n (List.of_mem_zip hy).1 with q | q
  ·#.inl q
  ·#.inr ⟨q,PySem.W.cellsFrom_some _ _ _ (.inl q)⟩
 &codeAny_call_function hr.depth (KX _ _ lk) rfl S.co S.gen rfl (PySem.W.codeRec_of KX hcd) (hb _ _ _ _ ?_)
 &wpAny_newFunctionEnv_cells S.kind hkind fun env he s1 x=> ?_
 subst he
 &⟨lim.keeps x.toInCall.keep,codeAny_func ?_⟩
 &⟨t,ht,hq⟩:=hbody A outer s H vs Q E (hr.deeper _) hsp
 have I:Inv (kA CX P w K mg base N qual scope f cdv A outer s H E) [] (start N vs) H s1:=kU S hr.hd e0 hl r x
 &wpAny_mono (ht [] s1 (start N vs) H _ I hq) (fun fl s' hs=> ?_) fun e s' hs=>hs
 have fin:∀ {σ':St} {H':Hp} {v:V} {u:Value},Inv (kA CX P w K mg base N qual scope f cdv A outer s H E) [] σ' H' s'->RelV v u->Q v H'->CE outer P w H s Q u s':=
  fun {σ' H' v u} J rv q=>⟨v,H',J.os,J.bare,J.base,J.hok,rv,q⟩
 cases fl with
 | ret u=>
  &⟨v,σ',H',J,rv,q⟩:=hs
  #fin J rv q
 | next=>
  &⟨σ',H',J,q⟩:=hs
  #fin (v:=V.non) (u:=Value.none) J rfl q
 | brk=>
  &⟨_,_,_,q⟩:=hs
  #False.elim q
 | cont=>
  &⟨_,_,_,q⟩:=hs
  #False.elim q
end L2
namespace HT
open PySem PyProof.Rows
section
variable {prog:Program}{w:World}{A:Around}{E:Value->Shared->Prop}{s:Shared}
&cat_tup {t b:Addr}{vs ws:List Value}{Q:Value->Shared->Prop}(ht:IsTup s.heap t vs.toArray)(hb:IsTup s.heap b ws.toArray)(hv:vs≠ [])
  (h1:ws= []->Q (.ref t) s) (h2:ws≠ []->Q (.ref s.heap.objs.size) { s with heap:=s.heap.push { cls:=.type "tuple",data:=.seq (vs++ws).toArray } })
  (hsz:vs.length+ws.length<=sizeLine):wpAny (model prog w) A (binaryOp .Add (.ref t) (.ref b)) Q E s:=by
 &⟨⟨cls,dd,data,sl⟩,ho,hc,n,hd⟩:=id ht
 &⟨⟨cls2,dd2,data2,sl2⟩,ho2,hc2,n2,hd2⟩:=id hb
 simp only at hc hd hc2 hd2
 subst hc hd hc2 hd2
 have e:vs.toArray++ws.toArray=(vs++ws).toArray:=by simp
 by_cases hw:ws= []
 ·#concat_meets ⟨_,ho,rfl⟩ ⟨_,ho2,rfl⟩ noFill_tuple_add seq_tuple_add PySem.F.slot_tuple_add PySem.F.entry_tuple_add (PySem.F.args_tuple_add_2 _ _)
   (tuple_addW1 t b vs.toArray ws.toArray n n2 dd dd2 sl sl2 (by simpa using hv) (by simp [hw])) ⟨ho,ho2,h1 hw⟩
 ·&concat_meets ⟨_,ho,rfl⟩ ⟨_,ho2,rfl⟩ noFill_tuple_add seq_tuple_add PySem.F.slot_tuple_add PySem.F.entry_tuple_add (PySem.F.args_tuple_add_2 _ _)
   (tuple_addW2 t b vs.toArray ws.toArray n n2 dd dd2 sl sl2 (by simpa using hv) (by simpa using hw) (by rw [List.size_toArray,List.size_toArray];#hsz)) ⟨ho,ho2,?_⟩
  rw [e]
  #h2 hw
def sIx (n d:Nat):Option Int->Nat
 | none=>d
 | some v=>if v<0 then(v+(n:Int)).toNat else min v.toNat n
&sIx_none (n d:Nat):sIx n d none=d:=rfl
&sIx_nat (n d k:Nat):sIx n d (some (k:Int))=min k n:=by
 show(if (k:Int)<0 then((k:Int)+(n:Int)).toNat else min (k:Int).toNat n)=min k n
 rw [if_neg (by omega),Int.toNat_natCast]
&sIx_le (n d:Nat)(hd:d<=n)(o:Option Int):sIx n d o<=n:=by
 cases o with
 | none=>#hd
 | some v=>
  show(if v<0 then(v+(n:Int)).toNat else min v.toNat n)<=n
  by_cases hv:v<0
  ·rw [if_pos hv];omega
  ·rw [if_neg hv];#Nat.min_le_right _ _
&uY (v:Int)(n d:Nat):(if v<0 then max (v+(n:Int)) 0 else min v (n:Int))=((sIx n d (some v):Nat):Int):=by
 show(if v<0 then max (v+(n:Int)) 0 else min v (n:Int))=(((if v<0 then(v+(n:Int)).toNat else min v.toNat n):Nat):Int)
 by_cases hv:v<0
 ·simp only [if_pos hv];omega
 ·simp only [if_neg hv];omega
&tU (lo hi:Option Int)(n:Nat):Builtin.Slice.sliceAdjust lo hi 1 (n:Int)=(((sIx n 0 lo:Nat):Int),((sIx n n hi:Nat):Int)):=by
 have h1:¬ ((1:Int)<0):=by omega
 #,Builtin.Slice.sliceAdjust
 simp only [h1,if_false]
 &Prod.ext ?_ ?_
 ·cases lo with
  | none=>rfl
  | some v=>#uY v n 0
 ·cases hi with
  | none=>rfl
  | some v=>#uY v n n
&sV (i j:Nat):Builtin.Slice.slicePlaces (i:Int) (j:Int) 1=j - i:=by
 #,Builtin.Slice.slicePlaces
 have h1:(1:Int) > 0:=by omega
 simp only [h1,if_true,Int.ediv_one]
 split <;> omega
&mf {v:Value}{o:Option Int}{Q:Option Int->Shared->Prop}(p:IsPart v o)(h:Q o s):wpAny (model prog w) A (Builtin.Slice.slicePartIndex v) Q E s:=by
 cases p with
 | none=>#slicePart_none h
 | int i t=>#slicePart_int h
&gL {sl:Addr}{vl vu:Value}{lo hi:Option Int}{n:Nat}{Q:Int×Int×Nat->Shared->Prop}(hs:s.heap.IsSliceOf sl vl vu .none)(pl:IsPart vl lo)(pu:IsPart vu hi)
  (h:Q (((sIx n 0 lo:Nat):Int),1,sIx n n hi - sIx n 0 lo) s):wpAny (model prog w) A (Builtin.Slice.sliceApplied (.ref sl) (pure (n:Int))) Q E s:=by
 &⟨os,hos,hcs,hds⟩:=id hs
 #,Builtin.Slice.sliceApplied Builtin.Slice.sliceFields
 &wpAny_bind (wpAny_bind (wpAny_field hos hds (x:=vl) rfl (wpAny_bind (wpAny_field hos hds (x:=vu) rfl (wpAny_bind (wpAny_field hos hds (x:=.none) rfl (wpAny_pure ?_)))))))
 &wpAny_bind (slicePart_none ?_)
 show wpAny _ _ (if ((1:Int) == 0)=true then _ else _) _ _ s
 rw [if_neg (by decide)]
 &wpAny_bind (mf pl (wpAny_bind (mf pu (wpAny_bind (wpAny_pure ?_)))))
 show wpAny _ _ (match Builtin.Slice.sliceAdjust lo hi 1 (n:Int)with | (lo,hi)=>pure (lo,(1:Int),Builtin.Slice.slicePlaces lo hi 1)) _ _ s
 rw [tU lo hi n]
 show wpAny _ _ (pure (((sIx n 0 lo:Nat):Int),(1:Int),Builtin.Slice.slicePlaces ((sIx n 0 lo:Nat):Int) ((sIx n n hi:Nat):Int) 1)) _ _ s
 rw [sV]
 #wpAny_pure h
&xq (xs:Array Value)(i k:Nat):((List.range k).filterMap fun(m:Nat)=>xs[((i:Int)+(m:Int)*1).toNat]?).toArray=((xs.toList.drop i).take k).toArray:=by
 have e:(fun(m:Nat)=>xs[((i:Int)+(m:Int)*1).toNat]?)=fun m=>xs[i+m]?:=by
  funext m
  have:((i:Int)+(m:Int)*1).toNat=i+m:=by omega
  rw [this]
 rw [e]
 have:=pick_run xs i k
 rw [List.filterMap_map]at this
 have e2:((fun x=>xs[x]?)∘fun x=>i+x)=fun m=>xs[i+m]?:=rfl
 rw [e2]at this
 rw [this]
&getItem_tuple_cut {t sl:Addr}{items:Array Value}{vl vu:Value}{lo hi:Option Int}{Q:Value->Shared->Prop}(ht:IsTup s.heap t items)(hs:s.heap.IsSliceOf sl vl vu .none)(pl:IsPart vl lo)(pu:IsPart vu hi)
  (hw:¬ (sIx items.size 0 lo=0/\sIx items.size items.size hi=items.size))
  (h:Q (.ref s.heap.objs.size) { s with heap:=s.heap.push { cls:=.type "tuple",data:=.seq ((items.toList.drop (sIx items.size 0 lo)).take (sIx items.size items.size hi - sIx items.size 0 lo)).toArray } })
  (hsz:items.size<=sizeLine):wpAny (model prog w) A (getItem (.ref t) (.ref sl)) Q E s:=by
 have htake:sizeOk (.seq ((items.toList.drop (sIx items.size 0 lo)).take (sIx items.size items.size hi - sIx items.size 0 lo)).toArray):=by
  show((items.toList.drop (sIx items.size 0 lo)).take (sIx items.size items.size hi - sIx items.size 0 lo)).toArray.size<=sizeLine
  rw [List.size_toArray,List.length_take,List.length_drop,Array.length_toList]
  omega
 have hj:sIx items.size items.size hi<=items.size:=sIx_le _ _ (Nat.le_refl _) hi
 &⟨os,hos,hcs,hds⟩:=id hs
 have hTs:s.TypeIs (.ref sl) "slice":=⟨os,hos,hcs⟩
 #,getItem
 try with_reducible &wpAny_holding ?_
 first | &wpAny_bind (wpAny_pure ?_) | skip
 &wpAny_bind (wpAny_sequenceKey ht.typeIs (by decide) ?_)
 &wpAny_bind (wpAny_callSpecial?_slot (name:=Str.ofString "__getitem__") ht.typeIs PyProof.Rows.slot_tuple_getitem
  (wpAny_call_entry PyProof.Rows.slot_tuple_getitem ht.typeIs entry_tuple_getitem ?_ (args_tuple_getitem _ _)))
 show wpAny _ _ (Builtin.Tuple.tupleItemsOf (.ref t) >>= _) _ _ s
 &wpAny_bind (tupleItemsOf_ ht ?_)
 &wpAny_bind (wpAny_typeOf hTs ?_)
 rw [if_pos (by decide)]
 &wpAny_bind (gL hs pl pu ?_)
 have hno:¬ ((((sIx items.size 0 lo:Nat):Int) == 0&&(1:Int) == 1&&(sIx items.size items.size hi - sIx items.size 0 lo) == items.size)=true):=by
  intro q
  rw [Bool.and_eq_true,Bool.and_eq_true]at q
  have q1:((sIx items.size 0 lo:Nat):Int)=0:=eq_of_beq q.1.1
  have q2:sIx items.size items.size hi - sIx items.size 0 lo=items.size:=eq_of_beq q.2
  #hw ⟨by omega,by omega⟩
 show wpAny _ _ (if (((sIx items.size 0 lo:Nat):Int) == 0&&(1:Int) == 1&&(sIx items.size items.size hi - sIx items.size 0 lo) == items.size)=true then _ else _) _ _ s
 rw [if_neg hno,xq]
 first
  | #wpAny_bind (m:=Builtin.Tuple.tupleExact _) (wpAny_newObj_type (wpAny_pure ⟨_,rfl,wpAny_pure h⟩) htake)
  | #wpAny_bind (m:=Builtin.Tuple.tupleExact _) (wpAny_newObj_type (wpAny_bind (wpAny_pure (wpAny_pure ⟨_,rfl,wpAny_pure h⟩))) htake)
  | #wpAny_bind (wpAny_bind (m:=Builtin.Tuple.tupleExact _) (wpAny_newObj_type (wpAny_pure (wpAny_pure ⟨_,rfl,wpAny_pure h⟩)) htake))
  | #wpAny_bind (wpAny_bind (m:=Builtin.Tuple.tupleExact _) (wpAny_newObj_type (wpAny_pure ⟨_,rfl,wpAny_pure h⟩) htake))
end
end HT
namespace L2
open PySem PySem.Spec PyProof.Rows
abbrev TO:=St->Hp->(Option Int->Hp->Prop)->Prop
def PO (X:Cx)(e:Option Expr)(t:TO):Prop:=
 ∀(pins:List (Addr×Obj)) (s:Shared) (σ:St) (H:Hp) (Q:Option Int->Hp->Prop),Inv X pins σ H s->t σ H Q →
  wpAny (model X.prog X.w) X.A (evalPart e X.env) (fun u s'=> ∃o H',Inv X pins σ H' s'/\IsPart u o/\Q o H') X.xe s
def tNoPart:TO:=fun _ H Q=>Q none H
def tPart (t:TE):TO:=fun σ H Q=>t σ H fun x H1=> ∃i,x= .int i/\Q (some i) H1
&tI {ns:List Int}:∀ {us:List Value},Vals (ns.map V.int) us->IntsAre us ns:=by
 induction ns with
 | nil=>intro us r;rw [List.map_nil]at r;cases r;#.nil
 | cons n ns ih=>
  intro us r
  rw [List.map_cons]at r
  cases r with
  | cons r1 r2=>
   &⟨t,e⟩:=r1
   subst e
   #.cons n t (ih r2)
section
variable {X:Cx}{e:Expr}{te:TE}{lo hi:Option Expr}{tl th:TO}{pos p2:Pos}
&po_none:PO X none tNoPart:=by
 intro pins s σ H Q I h
 rw [evalPart_none]
 #wpAny_pure ⟨none,H,I,.none,h⟩
&po_some (h:PE X e te):PO X (some e) (tPart te):=by
 intro pins s σ H Q I hw
 rw [evalPart_some]
 &bU (h pins s σ H _ I hw) fun u s1 hh_=> ?_
 &⟨x,H1,I1,r1,q1⟩:=hh_
 &⟨i,rfl,q⟩:=q1
 &⟨t,rfl⟩:=r1
 #⟨some i,H1,I1,.int i t,q⟩
def SlR (X:Cx)(r:V->Option Int->Option Int->Hp->VK->Prop):Prop:=
 ∀(pins:List (Addr×Obj)) (s:Shared) (σ:St) (H:Hp) (x:V) (v vl vu:Value) (lo hi:Option Int) (sl:Addr) (Q:VK),Inv X pins σ H s->RelV x v->s.heap.IsSliceOf sl vl vu .none->IsPart vl lo->IsPart vu hi->r x lo hi H Q →
  ∃T id,typeLookup (.type T) "__getitem__" =pure (some (.builtin id))/\s.TypeIs v T/\wpAny (model X.prog X.w) X.A (getItem v (.ref sl)) (EP X pins σ Q) X.xe s
&SlR.or {r r':V->Option Int->Option Int->Hp->VK->Prop}(h:SlR X r)(h':SlR X r'):SlR X (fun x lo hi H Q=>r x lo hi H Q\/r' x lo hi H Q):=by
 intro pins s σ H x v vl vu lo hi sl Q I rx hs pl pu q
 rcases q with q | q
 ·#h pins s σ H x v vl vu lo hi sl Q I rx hs pl pu q
 ·#h' pins s σ H x v vl vu lo hi sl Q I rx hs pl pu q
def tSl (r:V->Option Int->Option Int->Hp->VK->Prop)(te:TE)(tl th:TO):TE:=fun σ H Q=>te σ H fun x H1=>tl σ H1 fun l H2=>th σ H2 fun u H3=>r x l u H3 Q
&xv {r:V->Option Int->Option Int->Hp->VK->Prop}(hr:SlR X r)(he:PE X e te)(hl:PO X lo tl)(hu:PO X hi th):PE X (.Subscript e (.Slice lo hi none p2) pos) (tSl r te tl th):=by
 intro pins s σ H Q I h
 &Subscript_ (bU (he pins s σ H _ I h) fun v s1 hh_=> ?_)
 &⟨x,H1,I1,r1,q1⟩:=hh_
 &wpAny_Slice (bU (hl pins s1 σ H1 _ I1 q1) fun vl s2 ⟨l,H2,I2,pl,q2⟩=>bU (hu pins s2 σ H2 _ I2 q2) fun vu s3 hh_=> ?_)
 &⟨u,H3,I3,pu,q3⟩:=hh_
 rw [evalPart_none]
 &wpAny_pure ?_
 have I4:Inv X pins σ H3 { s3 with heap:=s3.heap.push { cls:=.type "slice",data:=.fields #[vl,vu,.none] } }:=I3.kept (t':=s3.toks) fun b ob q=>Heap.get?_push_of_some _ q
 &⟨T,id,hT,ht,hg⟩:=hr pins { s3 with heap:=s3.heap.push { cls:=.type "slice",data:=.fields #[vl,vu,.none] } } σ H3 x v vl vu l u s3.heap.objs.size Q I4 r1 (Heap.IsSliceOf.new ..) pl pu q3
 show wpAny (model X.prog X.w) X.A (subscriptTail e (.Slice lo hi none p2) v (.ref s3.heap.objs.size)) (EP X pins σ Q) X.xe { s3 with heap:=s3.heap.push { cls:=.type "slice",data:=.fields #[vl,vu,.none] } }
 #tail_any (ops:=[.ref s3.heap.objs.size,v]) ht hT hg (by with_unfolding_all rfl)
def sA (xs:List V)(lo hi:Option Int):List V:=(xs.drop (HT.sIx xs.length 0 lo)).take (HT.sIx xs.length xs.length hi - HT.sIx xs.length 0 lo)
&lq (xs:List V)(lo hi:Option Int):(sA xs lo hi).length<=xs.length:=by
 #,sA
 rw [List.length_take,List.length_drop]
 omega
def rSlT (K:PySem.W.Frag):V->Option Int->Option Int->Hp->VK->Prop:=fun x lo hi H Q=> ∃a xs,x= .ref a/\SqT K H a xs ∧
 ¬(HT.sIx xs.length 0 lo=0/\HT.sIx xs.length xs.length hi=xs.length)/\∀ p,H p=none->Q (.ref p) (upd H p (.tup (sA xs lo hi)))
&sl_tup:SlR X (rSlT X.K):=by
 intro pins s σ H x v vl vu lo hi sl Q I rx hs pl pu h
 &⟨a,xs,rfl,hx,hw,q⟩:=h
 cases rx
 &⟨its,r,ht,hz⟩:=I.tuple hx
 have hlen:its.toArray.size=xs.length:=by rw [List.size_toArray];#r.length.symm
 &⟨"tuple",_,PyProof.Rows.slot_tuple_getitem.lookup,ht.typeIs,?_⟩
 &HT.getItem_tuple_cut ht hs pl pu (by rw [hlen];#hw) ?_ (by rw [hlen];#hz)
 rw [hlen]
 &⟨.ref s.heap.objs.size,_,I.laid (t':=s.toks) (o:=.tup (sA xs lo hi)) (fun b ob q=>Heap.get?_push_of_some _ q) (Nat.le_refl _) ?_,rfl,q _ (I.hok.fresh (Nat.le_refl _))⟩
 #⟨Nat.le_trans (lq xs lo hi) hz,_,(r.drop (HT.sIx xs.length 0 lo)).take (HT.sIx xs.length xs.length hi - HT.sIx xs.length 0 lo),IsTup.new _ _⟩
def rCatT (K:PySem.W.Frag):R2:=fun x y H Q=> ∃a b xs ys,x= .ref a/\y= .ref b/\SqT K H a xs/\SqT K H b ys/\xs≠ []/\xs.length+ys.length<=sizeLine ∧
 (ys= []->Q (.ref a) H)/\(ys≠ []->∀ p,H p=none->Q (.ref p) (upd H p (.tup (xs++ys))))
&Vals.nil_iff {xs:List V}{us:List Value}(r:Vals xs us):us= [] ↔xs= []:=by
 cases r with
 | nil=>simp
 | cons _ _=>simp
&op_catT:nP X (binaryOp .Add) (rCatT X.K):=by
 intro pins s σ H x y v u Q I rx ry h
 &⟨a,b,xs,ys,rfl,rfl,ha,hb,hx,hz,q1,q2⟩:=h
 cases rx
 cases ry
 &⟨its,r1,p1,_⟩:=I.tuple ha
 &⟨its2,r2,p2,_⟩:=I.tuple hb
 &HT.cat_tup p1 p2 (fun z=>hx (r1.nil_iff.mp z)) (fun z=>⟨.ref a,H,I,rfl,q1 (r2.nil_iff.mp z)⟩) (fun z=> ?_) (by rw [<-r1.length,<-r2.length];#hz)
 &⟨.ref s.heap.objs.size,_,I.laid (t':=s.toks) (o:=.tup (xs++ys)) (fun b ob q=>Heap.get?_push_of_some _ q) (Nat.le_refl _) ?_,rfl,q2 (fun w=>z (r2.nil_iff.mpr w)) _ (I.hok.fresh (Nat.le_refl _))⟩
 #⟨by rw [List.length_append];#hz,_,r1.append r2,IsTup.new _ _⟩
end
def ixN (n:Nat)(i:Int):Option Nat:=if 0<=i then(if i<n then some i.toNat else none)else if -(n:Int)<=i then some (i+n).toNat else none
def atI {α:Type}(xs:List α)(i:Int):Option α:=(ixN xs.length i).bind fun j=>xs[j]?
&ixN_seq {n:Nat}{i:Int}{j:Nat}(h:ixN n i=some j):seqIndex? i n=some j/\j<n/\-(n:Int)<=i/\i<n:=by
 unfold ixN at h
 by_cases h0:0<=i
 ·rw [if_pos h0]at h
  by_cases h1:i<n
  ·rw [if_pos h1]at h
   have e:i.toNat=j:=Option.some.inj h
   #⟨by rw [seqIndex_of h0 h1,e],by omega,by omega,h1⟩
  ·rw [if_neg h1]at h;cases h
 ·rw [if_neg h0]at h
  by_cases h1 : -(n:Int)<=i
  ·rw [if_pos h1]at h
   have e:(i+n).toNat=j:=Option.some.inj h
   #⟨by rw [seqIndex_neg (by omega) h1,e],by omega,h1,by omega⟩
  ·rw [if_neg h1]at h;cases h
&qB {α:Type}{xs:List α}{i:Int}{v:α}(h:atI xs i=some v):∃ j,seqIndex? i xs.length=some j/\xs[j]? =some v/\j<xs.length/\-(xs.length:Int)<=i/\i<xs.length:=by
 unfold atI at h
 cases e:ixN xs.length i with
 | none=>rw [e]at h;cases h
 | some j=>
  rw [e]at h
  &⟨h1,h2,h3,h4⟩:=ixN_seq e
  #⟨j,h1,h,h2,h3,h4⟩
def jw (b:Expr):Prop:=∀ o i,subscripted b false o i=operate [o,i] (getItem o i)
def IxR (X:Cx)(r:R2):Prop:=
 ∀(value slice:Expr) (pins:List (Addr×Obj)) (s:Shared) (σ:St) (H:Hp) (x y:V) (v u:Value) (Q:VK),Inv X pins σ H s->RelV x v->RelV y u->r x y H Q →
  subscripted slice false v u=operate [v,u] (getItem v u)->wpAny (model X.prog X.w) X.A (subscriptTail value slice v u) (EP X pins σ Q) X.xe s
def MtR (X:Cx)(id:String)(r:V->List V->Hp->VK->Prop):Prop:=
 ∀(pins:List (Addr×Obj)) (s:Shared) (σ:St) (H:Hp) (x:V) (xs:List V) (v:Value) (us:List Value) (Q:VK),Inv X pins σ H s->RelV x v->Vals xs us->r x xs H Q →
  wpAny (model X.prog X.w) X.A (call (.builtin id) (v::us)) (EP X pins σ Q) X.xe s
section
variable {X:Cx}{a b:Expr}{ta tb:TE}{pos:Pos}
&IxR.or {r r':R2}(h:IxR X r)(h':IxR X r'):IxR X (fun x y H Q=>r x y H Q\/r' x y H Q):=by
 intro value slice pins s σ H x y v u Q I rx ry q hs
 rcases q with q | q
 ·#h value slice pins s σ H x y v u Q I rx ry q hs
 ·#h' value slice pins s σ H x y v u Q I rx ry q hs
&pe_ix {r:R2}(hr:IxR X r)(ha:PE X a ta)(hb:PE X b tb)(hs:jw b):PE X (.Subscript a b pos) (tOp r ta tb):=by
 intro pins s σ H Q I h
 #Subscript_ (binT ha hb I h fun v u s2 x y H2 I2 rx ry q=>hr a b pins s2 σ H2 x y v u Q I2 rx ry q (hs _ _))
def rIxL (K:PySem.W.Frag):R2:=fun x y H Q=> ∃p xs i v,x= .ref p/\y= .int i/\SqL K H p xs/\atI xs i=some v/\Q v H
def rIxT (K:PySem.W.Frag):R2:=fun x y H Q=> ∃p xs i v,x= .ref p/\y= .int i/\SqT K H p xs/\atI xs i=some v/\Q v H
def rIxS:R2:=fun x y H Q=> ∃z i c,x= .str z/\y= .int i/\z.length<=sizeLine/\atI z.cps.toList i=some c/\Q (.str ⟨#[c]⟩) H
&ix_list:IxR X (rIxL X.K):=by
 intro value slice pins s σ H x y v u Q I rx ry h hs
 &⟨p,xs,i,z,rfl,rfl,hq,he,q⟩:=h
 cases rx
 &⟨t,rfl⟩:=ry
 &⟨its,r,pl,hz⟩:=I.list hq
 &⟨j,h1,h2,h3,h4,h5⟩:=qB he
 &⟨w,ew,rw'⟩:=r.get h2
 have hl:=r.length
 have hn:=mU
 have fin:EP X pins σ Q w s:=⟨z,H,I,rw',q⟩
 by_cases h0:0<=i
 ·have hj:i.toNat=j:=by
   rw [seqIndex_of h0 h5]at h1
   #Option.some.inj h1
  #item_listR pl.isList h0 (by omega) (by rw [hj];simpa using ew) fin hs
 ·have hj:(i+(its.toArray.size:Int)).toNat=j:=by
   rw [seqIndex_neg (by omega) h4]at h1
   rw [List.size_toArray,<-hl]
   #Option.some.inj h1
  #subscriptTail_builtinR (x:=w) pl.isList.typeIs slot_list_getitem.lookup
   (wpAny_getItem_list_neg (Q:=fun r s'=>r=w/\EP X pins σ Q r s') pl.isList (by omega) (by rw [List.size_toArray] <;> omega) (by omega) (by rw [hj];simpa using ew) ⟨rfl,fin⟩) hs
&ix_tup:IxR X (rIxT X.K):=by
 intro value slice pins s σ H x y v u Q I rx ry h hs
 &⟨p,xs,i,z,rfl,rfl,hq,he,q⟩:=h
 cases rx
 &⟨t,rfl⟩:=ry
 &⟨its,r,pl,hz⟩:=I.tuple hq
 &⟨j,h1,h2,h3,h4,h5⟩:=qB he
 &⟨w,ew,rw'⟩:=r.get h2
 have hl:=r.length
 have hn:=mU
 have fin:EP X pins σ Q w s:=⟨z,H,I,rw',q⟩
 #subscriptTail_builtinR (x:=w) pl.typeIs slot_tuple_getitem.lookup
  (getItem_tuple (j:=j) (Q:=fun r s'=>r=w/\EP X pins σ Q r s') pl (by omega) (by omega) (by rw [List.size_toArray,<-hl];#h1) (by simpa using ew) ⟨rfl,fin⟩) hs
&ix_str:IxR X rIxS:=by
 intro value slice pins s σ H x y v u Q I rx ry h hs
 &⟨z,i,c,rfl,rfl,hz,he,q⟩:=h
 &⟨t,rfl⟩:=rx
 &⟨t',rfl⟩:=ry
 &⟨j,h1,h2,h3,h4,h5⟩:=qB he
 have hl:z.cps.toList.length=z.length:=by simp [Str.length]
 rw [hl]at h1 h4 h5
 have hn:=mU
 #tail_any (typeIs_str s z t) slot_str_getitem.lookup (getItem_str (c:=c) (by
  have e1:decide (i< -(2 ^ 63:Int))=false:=decide_eq_false (by omega)
  have e2:decide (i ≥ 2 ^ 63)=false:=decide_eq_false (by omega)
  rw [e1,e2,Bool.or_false]) (by rw [h1];simpa using h2) ⟨.str ⟨#[c]⟩,H,I.tok _,⟨_,rfl⟩,q⟩) hs
def rIx (K:PySem.W.Frag):R2:=fun x y H Q=>rIxL K x y H Q\/rIxT K x y H Q\/rIxS x y H Q
&ix_seq:IxR X (rIx X.K):=ix_list.or (ix_tup.or ix_str)
&pw (lo hi:Option Int)(n:Nat):(sliceBounds lo hi none n).1=((HT.sIx n 0 lo:Nat):Int)/\(sliceBounds lo hi none n).2.1=((HT.sIx n n hi:Nat):Int)/\(sliceBounds lo hi none n).2.2=1:=by
 &⟨?_,?_,rfl⟩
 ·cases lo with
  | none=>simp [sliceBounds,HT.sIx]
  | some i=>
   simp only [sliceBounds,HT.sIx,Option.getD_none,show(1:Int) > 0 by decide,if_true]
   by_cases h:i<0
   ·simp only [h,if_true] <;> omega
   ·simp only [h,if_false] <;> omega
 ·cases hi with
  | none=>simp [sliceBounds,HT.sIx]
  | some i=>
   simp only [sliceBounds,HT.sIx,Option.getD_none,show(1:Int) > 0 by decide,if_true]
   by_cases h:i<0
   ·simp only [h,if_true] <;> omega
   ·simp only [h,if_false] <;> omega
&nW (its:List Value)(lo hi:Option Int):slicePick its.toArray lo hi none=((its.drop (HT.sIx its.length 0 lo)).take (HT.sIx its.length its.length hi - HT.sIx its.length 0 lo)).toArray:=by
 &⟨h1,h2,h3⟩:=pw lo hi its.toArray.size
 #,slicePick
 rw [h1,h2,h3]
 simp only [sliceRange_one,pick_run,List.size_toArray] <;> rfl
def rSlL (K:PySem.W.Frag):V->Option Int->Option Int->Hp->VK->Prop:=fun x lo hi H Q=> ∃a xs,x= .ref a/\SqL K H a xs/\∀ p,H p=none->Q (.ref p) (upd H p (.lst (sA xs lo hi)))
&sl_list:SlR X (rSlL X.K):=by
 intro pins s σ H x v vl vu lo hi sl Q I rx hs pl pu h
 &⟨a,xs,rfl,hx,q⟩:=h
 cases rx
 &⟨its,r,ht,hz⟩:=I.list hx
 have hlen:=r.length
 &⟨"list",_,slot_list_getitem.lookup,ht.isList.typeIs,?_⟩
 &wpAny_getItem_list_slice ht.isList hs pl pu .none (by simp) ?_ (by rw [List.size_toArray] <;> omega)
 rw [nW,<-hlen]
 &⟨.ref s.heap.objs.size,_,I.laid (t':=s.toks) (o:=.lst (sA xs lo hi)) (fun b ob q=>Heap.get?_push_of_some _ q) (Nat.le_refl _) ?_,rfl,q _ (I.hok.fresh (Nat.le_refl _))⟩
 #⟨Nat.le_trans (lq xs lo hi) hz,_,0,(r.drop (HT.sIx xs.length 0 lo)).take (HT.sIx xs.length xs.length hi - HT.sIx xs.length 0 lo),Heap.get?_push_size _ rfl⟩
&call_len_seq:CallR X (.builtin "len") (fun xs H Q=> ∃p ys,xs= [.ref p]/\(SqL X.K H p ys\/SqT X.K H p ys)/\Q (.int ys.length) H):=by
 intro pins s σ H xs us Q I r h
 &⟨p,ys,rfl,hq,q⟩:=h
 &⟨u,rfl,rx⟩:=jA r
 cases rx
 have hn:=mU
 rcases hq with hq | hq
 ·&⟨its,r',pl,hz⟩:=I.list hq
  have hlen:=r'.length
  #Calls.call_len_list pl.isList (by simp only [List.size_toArray] <;> omega) ⟨.int ys.length,H,I.tok _,⟨s.toks+1,by rw [List.size_toArray,hlen]⟩,q⟩
 ·&⟨its,r',pl,hz⟩:=I.tuple hq
  have hlen:=r'.length
  #len_tuple pl (by simp only [List.size_toArray] <;> omega) ⟨.int ys.length,H,I.tok _,⟨s.toks+1,by rw [List.size_toArray,hlen]⟩,q⟩
&qy:CallR X (.builtin "len") (fun xs H Q=> ∃z,xs= [.str z]/\z.length<=sizeLine/\Q (.int z.length) H):=by
 intro pins s σ H xs us Q I r h
 &⟨z,rfl,hz,q⟩:=h
 &⟨u,rfl,t,rfl⟩:=jA r
 have hn:=mU
 #len_str (by omega) ⟨.int z.length,H,I.tok _,⟨_,rfl⟩,q⟩
&CallR.or {f:Value}{r r':List V->Hp->VK->Prop}(h:CallR X f r)(h':CallR X f r'):CallR X f (fun xs H Q=>r xs H Q\/r' xs H Q):=by
 intro pins s σ H xs us Q I rs q
 rcases q with q | q
 ·#h pins s σ H xs us Q I rs q
 ·#h' pins s σ H xs us Q I rs q
&on:CallR X (.type "tuple") (fun xs H Q=> ∃p ys,xs= [.ref p]/\((SqL X.K H p ys/\∀ l,H l=none->Q (.ref l) (upd H l (.tup ys)))\/(SqT X.K H p ys/\Q (.ref p) H))):=by
 intro pins s σ H xs us Q I r h
 &⟨p,ys,rfl,h⟩:=h
 &⟨u,rfl,rx⟩:=jA r
 cases rx
 rcases h with⟨hq,q⟩ | ⟨hq,q⟩
 ·&⟨its,r',pl,hz⟩:=I.list hq
  have hlen:=r'.length
  &call_tuple_list pl.isList (fun h' kp=> ?_) (by simp only [List.size_toArray] <;> omega)
  have I1:Inv X pins σ H { s with heap:=h' }:=I.kept (t':=s.toks) kp
  have I2:Inv X pins σ (upd H h'.objs.size (.tup ys)) { s with heap:=h'.push { cls:=.type "tuple",data:=.seq its.toArray } }:=
   I1.laid (t':=s.toks) (fun b o e=>Heap.get?_push_of_some _ e) (Nat.le_refl _) (show ObjOk X.prog X.w _ _ _ (.tup ys)from⟨hz,its,r',IsTup.new _ _⟩)
  #⟨.ref h'.objs.size,_,I2,rfl,q _ (I1.hok.fresh (Nat.le_refl _))⟩
 ·&⟨its,r',pl,hz⟩:=I.tuple hq
  #call_tuple_same pl ⟨.ref p,H,I,rfl,q⟩
def tyV (K:PySem.W.Frag)(T:String)(x:V)(H:Hp):Prop:=match x with
 | .str _=>T= "str"
 | .int _=>T= "int"
 | .ref p=>(T= "list"/\∃ xs,SqL K H p xs)\/(T= "tuple"/\∃ o,K.lookup p=some o/\o.cls= .type "tuple"/\o.dict=none) ∨
   (T= "dict"/\((∃kvs,H p=some (.dK kvs))\/∃ kvs,H p=some (.dT kvs)))\/(T= "set"/\∃ S n,H p=some (.set S n))
 | _=>False
&wA {pins:List (Addr×Obj)}{σ:St}{H:Hp}{s:Shared}{T:String}{x:V}{v:Value}(I:Inv X pins σ H s)(r:RelV x v)(ty:tyV X.K T x H) :
  s.TypeIs v T/\∀ a,v= .ref a->∃ ob,s.heap.get? a=some ob/\ob.dict=none:=by
 cases x with
 | str z=>
  &⟨t,rfl⟩:=r
  cases (show T= "str" from ty)
  #⟨typeIs_str s z t,fun _ e=>nomatch e⟩
 | int i=>
  &⟨t,rfl⟩:=r
  cases (show T= "int" from ty)
  #⟨typeIs_int s i t,fun _ e=>nomatch e⟩
 | ref p=>
  cases r
  rcases ty with⟨rfl,xs,hq⟩ | ⟨rfl,o,hk,hc,hd⟩ | ⟨rfl,hk⟩ | ⟨rfl,S,n,hk⟩
  ·&⟨its,_,pl,_⟩:=I.list hq
   &⟨pl.isList.typeIs,fun a e=> ?_⟩
   cases e
   &⟨o,n,e,c,hd,_⟩:=pl
   #⟨o,e,hd⟩
  ·&⟨⟨o,I.kIn p o hk,hc⟩,fun a e=> ?_⟩
   cases e
   #⟨o,I.kIn _ o hk,hd⟩
  ·have z:∃ o,s.heap.get? p=some o/\o.ExactDict:=by
    rcases hk with⟨kvs,hk⟩ | ⟨kvs,hk⟩
    ·&⟨_,_,_,_,o,_,_,e,ex,_⟩:=I.hok p _ hk
     #⟨o,e,ex⟩
    ·&⟨_,_,_,_,o,_,_,e,ex,_⟩:=I.hok p _ hk
     #⟨o,e,ex⟩
   &⟨o,e,ex⟩:=z
   &⟨⟨o,e,ex.1⟩,fun a e2=> ?_⟩
   cases e2
   #⟨o,e,ex.2.1⟩
  ·&⟨o,_,_,_,e,ex,_⟩:=I.hok p _ hk
   &⟨⟨o,e,ex.1⟩,fun a e2=> ?_⟩
   cases e2
   #⟨o,e,ex.2.1⟩
 | _=>#False.elim ty
def tBM (K:PySem.W.Frag)(T:String)(r:V->List V->Hp->VK->Prop)(to:TE)(t:TA):TE:=fun σ H Q=>to σ H fun x H1=>tyV K T x H1/\t σ H1 fun xs H2=>r x xs H2 Q
variable {o e:Expr}{es:List Expr}{to:TE}{t:TA}{name:Str}{apos cpos:Pos}{T id:String}{r:V->List V->Hp->VK->Prop}
&uo (pa:PlainAttrs T)(slot:Slot T name id)(hty:typeOf (.builtin id)=pure (.type "method_descriptor"))(hm:MtR X id r)(ho:PE X o to)(ha:PA X (e::es) t)
  (hbase:attributeBase o name X.env (eval o X.env)=eval o X.env:=by rfl)
  (hfew:((backTo cpos (starEach (e::es) X.env)).all (fun x=> !x.1)&&(backToKw cpos (keywordEach [] X.env)).all (fun x=>x.1.isSome)
   &&decide ((e::es).length+([]:List Keyword).length+(if ([]:List Keyword).isEmpty then 0 else 1)<30))=true:=by rfl)
  (hline:(apos.endLine == cpos.line)=true:=by rfl) (hs:starEach (e::es) X.env=(false,eval e X.env)::starEach es X.env:=by rfl) (hplain:(backTo cpos (starEach es X.env)).any (·.1)=false:=by rfl) :
  PE X (.Call (.Attribute o name apos) (e::es) [] cpos) (tBM X.K T r to t):=by
 intro pins s σ H Q I h
 &wpAny_Call_method_late hbase hfew hline rfl (bU (ho pins s σ H _ I h) fun v s1 hh_=> ?_)
 &⟨x,H1,I1,r1,ty,q1⟩:=hh_
 &⟨h1,h2⟩:=wA I1 r1 ty
 &⟨T,id,pa,slot,hty,h1,h2,?_⟩
 have hA:=ha cpos pins s1 σ H1 _ I1 q1
 rw [hs]at hA ⊢
 &Calls.callWith_builtin (by show(false||(backTo cpos (starEach es X.env)).any (·.1))=false;rw [hplain] <;> rfl) (Calls.evalArgs_plain ?_)
 #bU hA fun us s2 ⟨vs,H2,I2,r2,q2⟩=>hm pins s2 σ H2 x vs v us Q I2 r1 r2 q2
end
def MtM (X:Cx)(id:String)(r:V->List V->Hp->VK->Prop):Prop:=
 ∀(pins:List (Addr×Obj)) (s:Shared) (σ:St) (H:Hp) (x:V) (xs:List V) (v:Value) (us:List Value) (Q:VK),Inv X pins σ H s->RelV x v->Vals xs us->r x xs H Q →
  wpAny (model X.prog X.w) X.A (call (.builtin id) (v::us)) (EP X pins σ Q) X.xe s
&Vals.one:∀ {x:V} {us:List Value},Vals [x] us->∃ u,us= [u]/\RelV x u
 | _,_,.cons r .nil=>⟨_,rfl,r⟩
&Vals.reverse {xs:List V}{us:List Value}(h:Vals xs us):Vals xs.reverse us.reverse:=by
 induction h with
 | nil=>#.nil
 | cons r t ih=>rw [List.reverse_cons,List.reverse_cons];#Vals.append ih (.cons r .nil)
&Vals.rep {xs:List V}{us:List Value}(h:Vals xs us):∀ k:Nat,Vals (List.replicate k xs).flatten (List.replicate k us).flatten
 | 0=> .nil
 | k+1=>by
  rw [List.replicate_succ,List.replicate_succ,List.flatten_cons,List.flatten_cons]
  #Vals.append h (Vals.rep h k)
&foldl_rep (its:List Value):∀ (k:Nat) (acc:List Value),
  List.foldl (fun x1 x2=>x1++x2) acc.toArray (List.replicate k its.toArray)=(acc++(List.replicate k its).flatten).toArray
 | 0,acc=>by simp
 | k+1,acc=>by
  have e:acc.toArray++its.toArray=(acc++its).toArray:=by simp
  have e2:(acc++its)++(List.replicate k its).flatten=acc++(List.replicate (k+1) its).flatten:=by
   rw [List.replicate_succ,List.flatten_cons,List.append_assoc]
  rw [<-e2,<-foldl_rep its k (acc++its),<-e,List.replicate_succ,List.foldl_cons]
section
variable {X:Cx}{pins:List (Addr×Obj)}{σ:St}{H:Hp}{s:Shared}{l b:Addr}{xs ys zs:List V}
&Inv.lset {its its':List Value}{n:Nat}{f:Array Value->Array Value}{t':Nat}(I:Inv X pins σ H s)(hH:H l=some (.lst xs))
  (e:s.heap.get? l=some { cls:=.type "list",data:=.seq its.toArray n }) (hf:f its.toArray=its'.toArray) (hv:Vals ys its') (hz:ys.length<=sizeLine) :
  Inv X pins σ (upd H l (.lst ys)) { s with heap:=s.heap.update l (Obj.mapSeq f),toks:=t' }:=by
 have q:=PySem.IsL.update e f
 rw [hf]at q
 &I.write (x:=l) (e:=l) (by rw [hH];#trivial) (.inl rfl) (fun b' u hb hu=>(Heap.get?_update_other s.heap (Obj.mapSeq f) (Ne.symm hb)).trans hu) ⟨_,q⟩ ?_
 #⟨hz,its',_,hv,q⟩
&Inv.lnew {its:List Value}{t':Nat}(I:Inv X pins σ H s)(hv:Vals ys its)(hz:ys.length<=sizeLine) :
  Inv X pins σ (upd H s.heap.objs.size (.lst ys)) { s with heap:=s.heap.push { cls:=.type "list",data:=.seq its.toArray },toks:=t' }:=
 I.laid (fun _ _ q=>Heap.get?_push_of_some _ q) (Nat.le_refl _) ⟨hz,its,0,hv,Heap.get?_push_size _ rfl⟩
&Inv.fresh (I:Inv X pins σ H s):H s.heap.objs.size=none:=I.hok.fresh (Nat.le_refl _)
&Inv.lstM (I:Inv X pins σ H s)(hH:H l=some (.lst xs)):xs.length<=sizeLine/\∃ (its:List Value) (n:Nat),Vals xs its/\xs.length=its.length/\s.heap.get? l=some { cls:=.type "list",data:=.seq its.toArray n }:=by
 &⟨z,its,n,r,e⟩:=I.hok l _ hH
 #⟨z,its,n,r,r.length,e⟩
&rH {n:Nat}(h:n<=sizeLine):Builtin.List.listTooLong n=false:=by
 #,Builtin.List.listTooLong
 #decide_eq_false (by omega)
end
section
variable {X:Cx}
def rAppend:V->List V->Hp->VK->Prop:=fun x vs H Q=> ∃l xs y,x= .ref l/\vs= [y]/\H l=some (.lst xs)/\xs.length<sizeLine/\Q .non (upd H l (.lst (xs++ [y])))
&oH:MtM X "list.append" rAppend:=by
 intro pins s σ H x vs v us Q I rx rv h
 &⟨l,xs,y,rfl,rfl,hH,hz,q⟩:=h
 cases rx
 &⟨u,rfl,ru⟩:=rv.one
 &⟨z,its,n,r,hl,e⟩:=I.lstM hH
 &call_meets F.slot_list_append ⟨_,e,rfl⟩ F.entry_list_append (F.args_list_append_2 _ _) (PySem.list_append l its.toArray n u (by rw [List.size_toArray];omega)) ⟨e,?_⟩
 &⟨.non,_,I.lset (its':=its++ [u]) hH e (by simp) (r.append (.cons ru .nil)) ?_,rfl,q⟩
 rw [List.length_append,List.length_singleton]
 omega
def rExtend:V->List V->Hp->VK->Prop:=fun x vs H Q=> ∃l b xs zs,x= .ref l/\vs= [.ref b]/\H l=some (.lst xs)/\H b=some (.lst zs)/\xs.length+zs.length<=sizeLine/\Q .non (upd H l (.lst (xs++zs)))
&vI:MtM X "list.extend" rExtend:=by
 intro pins s σ H x vs v us Q I rx rv h
 &⟨l,b,xs,zs,rfl,rfl,hH,hB,hz,q⟩:=h
 cases rx
 &⟨u,rfl,ru⟩:=rv.one
 cases ru
 &⟨z,its,n,r,hl,e⟩:=I.lstM hH
 &⟨z2,its2,n2,r2,hl2,e2⟩:=I.lstM hB
 have hsz:its.toArray.size+its2.toArray.size<=sizeLine:=by rw [List.size_toArray,List.size_toArray];omega
 have hlong:¬ (!its.toArray.isEmpty&&Builtin.List.listTooLong (its.toArray.size+its2.toArray.size))=true:=by
  rw [rH hsz,Bool.and_false]
  #Bool.false_ne_true
 &call_meets F.slot_list_extend ⟨_,e,rfl⟩ F.entry_list_extend (F.args_list_extend_2 _ _)
  (AutoSeq1.list_extend_list_list_0 l its.toArray n b its2.toArray n2 hlong (by rw [List.size_toArray];omega) (by omega)) ⟨e,e2,?_⟩
 &⟨.non,_,I.lset (its':=its++its2) hH e (by simp) (r.append r2) ?_,rfl,q⟩
 rw [List.length_append]
 omega
def rCat:R2:=fun x y H Q=> ∃l b xs zs,x= .ref l/\y= .ref b/\H l=some (.lst xs)/\H b=some (.lst zs)/\xs.length+zs.length<=sizeLine/\∀ p,H p=none->Q (.ref p) (upd H p (.lst (xs++zs)))
&xI:nP X (binaryOp .Add) rCat:=by
 intro pins s σ H x y v u Q I rx ry h
 &⟨l,b,xs,zs,rfl,rfl,hH,hB,hz,q⟩:=h
 cases rx
 cases ry
 &⟨z,its,n,r,hl,e⟩:=I.lstM hH
 &⟨z2,its2,n2,r2,hl2,e2⟩:=I.lstM hB
 &PySem.P.add_list e e2 ?_ (by rw [List.size_toArray,List.size_toArray];omega)
 have ea:its.toArray++its2.toArray=(its++its2).toArray:=by simp
 rw [ea]
 #⟨.ref _,_,I.lnew (t':=s.toks) (r.append r2) (by rw [List.length_append];omega),rfl,q _ I.fresh⟩
def rRep:R2:=fun x y H Q=> ∃l k xs,x= .ref l/\y= .int k/\H l=some (.lst xs)/\-(2 ^ 63)<=k/\k<2 ^ 63/\xs.length*k.toNat<=sizeLine ∧
 ∀p,H p=none->Q (.ref p) (upd H p (.lst (List.replicate k.toNat xs).flatten))
&len_rep {α:Type}(xs:List α)(k:Nat):(List.replicate k xs).flatten.length=k*xs.length:=by
 induction k with
 | zero=>simp
 | succ k ih=>rw [List.replicate_succ,List.flatten_cons,List.length_append,ih,Nat.succ_mul,Nat.add_comm]
&op_rep:nP X (binaryOp .Mult) rRep:=by
 intro pins s σ H x y v u Q I rx ry h
 &⟨l,k,xs,rfl,rfl,hH,h1,h2,hz,q⟩:=h
 cases rx
 &⟨t,rfl⟩:=ry
 &⟨z,its,n,r,hl,e⟩:=I.lstM hH
 have hlen:its.toArray.size*k.toNat<=sizeLine:=by rw [List.size_toArray,<-hl];#hz
 have hcap:¬ its.toArray.size*k.toNat > (2 ^ 63 - 1) / 8:=by
  have:(sizeLine:Nat)<=(2 ^ 63 - 1) / 8:=by decide
  omega
 have hfit:¬ (!Builtin.List.listFitsIndex k)=true:=by
  rw [fitsIndex_both h1 h2]
  #Bool.false_ne_true
 have hlong:¬ Builtin.List.listTooLong (its.toArray.size*k.toNat)=true:=by
  rw [rH hlen]
  #Bool.false_ne_true
 have hnew:List.foldl (fun x1 x2=>x1++x2) #[] (List.replicate (if its.toArray.isEmpty=true then 0 else k.toNat) its.toArray)=(List.replicate k.toNat its).flatten.toArray:=by
  have f0:∀ m:Nat,List.foldl (fun x1 x2=>x1++x2) #[] (List.replicate m its.toArray)=(List.replicate m its).flatten.toArray:=fun m=>by
   have:=foldl_rep its m []
   rw [List.nil_append]at this
   #this
  rw [f0]
  cases its with
  | nil=>simp
  | cons a r'=>rw [if_neg (by simp)]
 &wpAny_binaryOp_repeat_ref (T:="list") (U:="int") (by decide) ⟨_,e,rfl⟩ (fun s'=>typeIs_int s' k t) noFill_list_mul F.fills_int_mul F.slot_int_rmul repeat_list F.slot_int_index.lookup
  (call_meets F.slot_int_rmul (typeIs_int s k t) F.entry_int_rmul (F.args_int_rmul_2 _ _) (int___rmul___int_list k t l its.toArray n)
   ⟨e,rfl,⟨_,e,rfl⟩,call_meets F.slot_list_mul ⟨_,e,rfl⟩ F.entry_list_mul (F.args_list_mul_2 _ _) (AutoListH.list___mul___list_int_3 l its.toArray n k t hfit hcap hlong) ⟨e,?_⟩⟩)
 rw [hnew]
 #⟨.ref _,_,I.lnew (t':=s.toks) (r.rep k.toNat) (by rw [len_rep,Nat.mul_comm];#hz),rfl,q _ I.fresh⟩
end
end L2
namespace Att
open PySem PySem.W PySem.Calls PyProof.Rows
&lC {P:Params}{h:Heap}:∀ (ns:List Int) (vs:List Value),WellAll P h vs (ns.map WData.int)->IntsAre vs ns:=by
 intro ns
 induction ns with
 | nil=>
  intro vs w
  rw [List.map_nil]at w
  cases w
  #.nil
 | cons n ns ih=>
  intro vs w
  rw [List.map_cons]at w
  cases w with
  | cons a b=>
   cases a
   #.cons _ _ (ih _ b)
&vm {l:OpenLaw}{n:Nat}(hn:l.most=some n){P:Params}{h:Heap}{args:List WData}{vals:List Value}
  (hpre:l.row.toRowW.claim.pre args=true) (hwl:WellAll P h vals args) :
  ∃a vs ns,vals= [Value.ref a]/\args= [WData.list (ns.map WData.int)]/\h.get? a=some { cls:=.type "list",data:=.seq vs.toArray }/\IntsAre vs ns/\ns.length<=n:=by
 have hsh:WShape.hasAll [] args [.list .int] =true:=(pre_splitW hpre).1
 have hc:l.pre.holds [] { args:=args }=true:=(pre_splitW hpre).2
 &⟨d,r,rfl,h1,h2⟩:=hasAllW_cons hsh
 obtain rfl:=hasAllW_nil h2
 &⟨xs,rfl,h3⟩:=hasW_list h1
 &⟨ns,rfl⟩:=items_int h3
 have hlen:ns.length<=n:=by
  unfold OpenLaw.pre at hc
  have h4:(WTm.not (.lt (.lit (.int (n:Int))) (.len (.arg 0)))).holds [] { args:=[.list (ns.map .int)] }=true:=by
   have h4:=(holds_andW hc).1
   rw [hn]at h4
   #h4
  have h5:=condW_of h4 (w_not (w_lt w_lit (w_len_list (w_arg rfl))))
  rw [List.length_map]at h5
  &Nat.le_of_not_lt fun q=> ?_
  have q':(n:Int)<((ns.length:Nat):Int):=by omega
  first
   | (rw [decide_eq_true q']at h5;#absurd h5 (by decide))
   | (simp at h5;omega)
 cases hwl with
 | cons w1 w2=>
  cases w2
  cases w1 with
  | list ho hall=>#⟨_,_,ns,rfl,rfl,ho,lC ns _ hall,hlen⟩
&vt (l:OpenLaw)(args:List WData):l.row.toRowW.claim.post args (.bool true) args=true:=
 postW_of (r:=l.row.toRowW) (X:=(true == true))
  (show WShape.has [] (.bool true) .bool=true by first | rfl | decide | simp [WShape.has,WShape.arms,WShape.armsAll])
  (show(WTm.eq .res (.lit (.bool true))).value [] { args:=args,res:=some (.bool true),after:=args }=some (.bool (true == true))from w_eq_bool (w_res rfl) w_lit) rfl
&attach_call {l:OpenLaw}{n:Nat}{q:Program}{loose:List Str}{XP:(Str->Option Value)->Heap->Prop}{YP:World->Heap->Prop}{d:DefRec}
  (hn:l.most=some n) (hdf:d.params.defaults= [])
  (call:∀ (w:World) (s₀ s₁:Shared) (mg mb:Str->Option Value) (fa:Addr) (o:Obj) (pm cd doc:Value) (a:Addr) (vs:List Value) (ns:List Int),
   Ground q loose [] XP w s₀ mg mb s₁.heap->YP w s₁.heap →
   s₁.heap.get? fa=some o->o.data= .func (docDef d.name d.params d.body d.scope pm cd doc)->s₁.heap.CodeRec cd d.name->mg d.name=some (.ref fa) →
   s₁.heap.get? a=some { cls:=.type "list",data:=.seq vs.toArray }->IntsAre vs ns->ns.length<=n->s₁.gens= #[] →
   codeAny (model l.prog w) callerA (.call (.ref fa) ⟨[.ref a],[]⟩) (fun r s'=>r= .ok (.ret (.bool true))/\OldK s₁.heap s'.heap/\s'.os=s₁.os/\AllBare s'.gens) s₁) :
  WalkO q loose XP YP l.row.toRowW d [] (fun f vs=>PySem.call f vs):=by
 intro w s₀ s₁ mg mb G Y fa o pm cd doc dV kV ho hd hcd hD hmg hg args vals as hpre hlay hrd hwl hlo
 obtain rfl:dV= .none:=Dflts.none hD hdf
 obtain rfl:kV= .none:=Dflts.noKw hD
 &⟨a,vs,ns,rfl,rfl,hobj,hints,hlen⟩:=vm hn hpre hwl
 &enter_call (codeAny_mono (call w s₀ s₁ mg mb fa o pm cd doc a vs ns G Y ho (fd_plain hd) hcd hmg hobj hints hlen hg) fun r s' hq=> ?_)
 &⟨rfl,h2,h3,h4⟩:=hq
 #⟨.inl ⟨.bool true,.bool true,[],rfl,fun _=>rfl,.bool true,vt l _,fun _=>⟨List.Pairwise.nil,fun _ hm=>(nomatch hm)⟩⟩,h2,h3,h4⟩
end Att
namespace L2
open PySem PySem.Spec PyProof.Rows
&ou:∀ {vs:List Value} {ns:List Int},IntsAre vs ns->Vals (ns.map V.int) vs
 | _,_,.nil=> .nil
 | _,_,.cons n t h=> .cons ⟨t,rfl⟩ (ou h)
def Only (H:Hp):Prop:=∀ b,H b=none\/∃ o xs,H b=some (.frz o (.lst xs))
&x6 {P:Program}{w:World}{K:PySem.W.Frag}{mg mb:Str->Option Value}{CX:CXT}{k:Nat}{fa a:Addr}{fd:FuncData}{x:Str}{sp:Sp}{s₁:Shared}{vs:List Value}{ns:List Int}
  (KX:K.In s₁.heap) (hns:s₁.heap.Ns mainGlobals mg) (hb:s₁.heap.Ns builtinsNs mb) (hbb:∀ x:Str,x≠ "__name__"->mb x=bootBuiltins x) (hlim:s₁.heap.NoLimit) (hg:s₁.gens= #[])
  (ha:s₁.heap.get? a=some { cls:=.type "list",data:=.seq vs.toArray }) (hi:IntsAre vs ns) (hl:ns.length<=sizeLine) (hr:Room k callerA)
  (F:∀ base:Heap,K.In base->base.Ns mainGlobals mg->qF P w K mg base CX k fa fd [x] sp) (hbind:∀ (s:Shared) (u:Value),BindsTo s fd ⟨[u],[]⟩ [(x,u)])
  (hsp:∀ H:Hp,Only H->SqL K H a (ns.map V.int)->sp [.ref a] H (fun v _=>v= .bl true) fun _ _ _=>False)
  (hCX:∀ H e s',CX [] H s₁ (fun _ _ _=>False) e s'->False) :
  codeAny (model P w) callerA (.call (.ref fa) ⟨[.ref a],[]⟩) (fun r s'=>r= .ok (.ret (.bool true))/\OldK s₁.heap s'.heap/\s'.os=s₁.os/\AllBare s'.gens) s₁:=by
 have rv:=ou hi
 have lenV:=hi.length
 -- from an abstract heap in which nothing but the script may be tracked
 have core:∀ H:Hp,Only H->SqL K H a (ns.map V.int)->HOk P w H s₁.heap->(∀b,H b≠none->b=a)->(H a≠none->K.lookup a=none) →
   codeAny (model P w) callerA (.call (.ref fa) ⟨[.ref a],[]⟩) (fun r s'=>r= .ok (.ret (.bool true))/\OldK s₁.heap s'.heap/\s'.os=s₁.os/\AllBare s'.gens) s₁:=by
  intro H hO hS hok hA hK
  have base_of:∀ {b:Addr} {o:Obj},s₁.heap.get? b=some o->H b=none->(ql s₁.heap H).get? b=some o:=fun e n=>yq e n
  have noA:∀ {b:Addr} {o:Obj} {es:Array DictEntry} {ep:Nat},s₁.heap.get? b=some o->o.data= .dict es ep->H b=none:=fun {b o es ep} e d=>by
   cases q:H b with
   | none=>rfl
   | some u=>
    have e':b=a:=hA b (by rw [q];simp)
    subst e'
    rw [ha]at e;cases e
    have d':Data.seq vs.toArray _=Data.dict es ep:=d
    cases d'
  have nsK:∀ {b:Addr} {m:Str->Option Value},s₁.heap.Ns b m->(ql s₁.heap H).Ns b m:=fun {b m} ⟨o,es,ep,e,d,r⟩=>⟨o,es,ep,base_of e (noA e d),d,r⟩
  have hKb:K.In (ql s₁.heap H):=fun b o e=>base_of (KX b o e) (by
   cases q:H b with
   | none=>rfl
   | some u=>
    have e':b=a:=hA b (by rw [q];simp)
    subst e'
    rw [hK (by rw [q];simp)]at e;cases e)
  have hM:Mod K mg (ql s₁.heap H):=⟨hKb,nsK hns,⟨mb,nsK hb,hbb⟩,let ⟨mc,h1,h2⟩:=hlim;⟨mc,nsK h1,h2⟩⟩
  have e0:sE P w K mg (ql s₁.heap H) callerA [] s₁ H:=⟨rfl,hM,fun b o e=>of_hidT e,Nat.le_of_eq (vV _ _),trivial,fun b hb=>absurd (show b∈([]:List Addr)from hb) (by simp),hok,.of_eq hg⟩
  &codeAny_mono ((F _ hKb (nsK hns)).run callerA [] s₁ H ⟨[.ref a],[]⟩ [.ref a] [.ref a] _ _ hr e0 (hbind s₁ (.ref a)) (.cons rfl .nil) (hsp H hO hS)) fun r s' h=> ?_
  cases r with
  | error e=>#(hCX H e s' h).elim
  | ok fl=>
   cases fl with
   | next=>#False.elim h
   | brk=>#False.elim h
   | cont=>#False.elim h
   | ret u=>
    &⟨v,H',os,bare,un,hok',r',q⟩:=h
    have q':v= .bl true:=q
    subst q'
    obtain rfl:u=Value.bool true:=r'
    &⟨rfl,OldK.of_keep fun b o e=> ?_,os,bare⟩
    cases q:H b with
    | none=>#un.keep b o e q (by intro z;#absurd (show b∈([]:List Addr)from z) (by simp)) (by simp)
    | some u=>
     rcases hO b with z | ⟨ob,xs,z⟩
     ·rw [q]at z;cases z
     ·have z2:=un.frzs b ob _ z
      &⟨e1,_⟩:=hok b _ z
      &⟨e2,_⟩:=hok' b _ z2
      rw [e]at e1;cases e1
      #e2
 cases hk:K.lookup a with
 | some o=>
  -- the script is one of the module's own objects
  have e:=KX a o hk
  rw [ha]at e
  cases e
  &core (fun _=>none) (fun _=> .inl rfl) (.inr ⟨_,vs.toArray,_,hk,rfl,rfl,rfl,by rw [List.size_toArray,lenV];#hl,by simpa using rv⟩) (fun b u z=>by have z':(none:Option HO)=some u:=z;cases z') (fun b z=>absurd rfl z) fun z=>absurd rfl z
 | none=>
  &core (fun b=>if b=a then some (.frz { cls:=.type "list",data:=.seq vs.toArray } (.lst (ns.map V.int)))else none) (fun b=> ?_) (.inl (.inr ⟨{ cls:=.type "list",data:=.seq vs.toArray },if_pos rfl⟩)) (fun b u z=> ?_) (fun b z=> ?_) fun _=>hk
  ·by_cases hb:b=a
   ·#.inr ⟨_,_,if_pos hb⟩
   ·#.inl (if_neg hb)
  ·by_cases hb:b=a
   ·have z':=(if_pos hb).symm.trans z
    cases z'
    subst hb
    #⟨ha,by rw [List.length_map];#hl,vs,_,rv,ha⟩
   ·have z':=(if_neg hb).symm.trans z
    cases z'
  ·by_cases hb:b=a
   ·#hb
   ·#absurd (if_neg hb) z
def hY (s:Stmt):Arguments:=match s with
 | .FunctionDef _ a _ _ _ _ _ _ _ _=>a
 | _=> { posonlyargs:=[],args:=[],vararg:=none,kwonlyargs:=[],kw_defaults:=[],kwarg:=none,defaults:=[] }
def cO (s:Stmt):List Stmt:=match s with
 | .FunctionDef _ _ b _ _ _ _ _ _ _=>b
 | _=> []
def aj (s:Stmt):Scope:=match s with
 | .FunctionDef _ _ _ _ _ _ sc _ _ _=>sc
 | _=> { kind:=.function,names:=[],isGenerator:=false,isCoroutine:=false }
abbrev CX0:CXT:=fun _ _ _ _ _ _=>False
abbrev E0:XK:=fun _ _ _=>False
&xE {X:Cx}:tV CX0 X E0:=fun _ _ _ _ _ _ _ h=>h.elim
structure Fun (K:PySem.W.Frag)(x qual:Str)(st:Stmt)(f:Addr)(fd:FuncData):Prop where
 ex:∃ (oc:Value) (od:Option Addr) (kV doc pm:Value) (an:Option Addr) (cdv ct:Value) (osl:Array (Option Value)),
  fd=PySem.W.fnOf x qual (hY st) (cO st) (aj st) .none kV doc pm an cdv ct/\K.lookup f=some ⟨oc,od,.func fd,osl⟩/\PySem.W.codeIn K cdv qual=true
 kp:PySem.W.keepIn K (.ref f)=true
section
variable {P:Program}{w:World}{K:PySem.W.Frag}{mg:Str->Option Value}{base:Heap}
&Fun.ok {x qual:Str}{st:Stmt}{f:Addr}{fd:FuncData}{N ps:List Str}{k:Nat}{sp:Sp}(F:Fun K x qual st f fd)(S:aE N ps (aj st))(len:∀ vs H Q E,sp vs H Q E->vs.length=ps.length)
  (hbody:∀ (cdv:Value) (A:Around) (outer:List Env) (s:Shared) (H:Hp) (vs:List V) (Q:VK) (E:XK),Room k (A.deeper (envOfC qual (aj st) s.heap.objs.size f cdv))->sp vs H Q E →
   ∃t,PSs (kA CX0 P w K mg base N qual (aj st) f cdv A outer s H E).nox (cO st) t/\t { nx:=fun _ H'=>Q .non H',rt:=Q } (start N vs) H):qF P w K mg base CX0 (k+1) f fd ps sp:=by
 &⟨oc,od,kV,doc,pm,an,cdv,ct,osl,rfl,lk,hcd⟩:=F.ex
 &fn_of lk hcd S len fun A outer s H vs Q E hr hsp=> ?_
 &⟨t,h,q⟩:=hbody cdv A outer s H vs Q E hr hsp
 #⟨t,h.nox,q⟩
&Fun.binds {x qual:Str}{st:Stmt}{f:Addr}{fd:FuncData}{ps:List Str}(F:Fun K x qual st f fd)
  (h:∀ (kV doc pm:Value) (an:Option Addr) (cdv ct:Value) (us:List Value),us.length=ps.length->bindArgs (PySem.W.fnOf x qual (hY st) (cO st) (aj st) .none kV doc pm an cdv ct) ⟨us,[]⟩=pure (ps.zip us)):Binds K fd ps []:=by
 &⟨oc,od,kV,doc,pm,an,cdv,ct,osl,rfl,lk,hcd⟩:=F.ex
 #.all (h kV doc pm an cdv ct)
&fun_mk {x qual:Str}{st:Stmt}{f:Addr}{oc:Value}{od an:Option Addr}{osl:Array (Option Value)}{kV doc pm cdv ct:Value}(l:K.lookup f=some ⟨oc,od,.func (PySem.W.fnOf x qual (hY st) (cO st) (aj st) .none kV doc pm an cdv ct),osl⟩)
  (c:PySem.W.codeIn K cdv qual=true) (k:PySem.W.keepIn K (.ref f)=true):Fun K x qual st f (PySem.W.fnOf x qual (hY st) (cO st) (aj st) .none kV doc pm an cdv ct):=⟨⟨oc,od,kV,doc,pm,an,cdv,ct,osl,rfl,l,c⟩,k⟩
end
section
variable {X:Cx}
&pv (i:Nat){x:Str}{pos:Pos}(hN:X.N[i]? =some x:=by rfl)(hv:qH X.env.scope x:=by first | #Or.inl rfl | #Or.inr (Or.inl rfl) | #Or.inr (Or.inr rfl))(hd:(x == ("__debug__" : Str))=false:=by decide)
  (hcd:(x == ("__classdict__" : Str))=false:=by decide):PE X (.Name x pos) (l5 i):=gY hN hv hd hcd
end
&iteF {A B:Prop}(h:B):if false=true then A else B:=by
 rw [if_neg Bool.false_ne_true]
 #h
&iteT {A B:Prop}(h:A):if true=true then A else B:=by
 rw [if_pos rfl]
 #h
def Same (H H':Hp):Prop:=∀ b o,H b=some o->H' b=some o
&Same.refl (H:Hp):Same H H:=fun _ _ h=>h
&Same.trans {H H1 H2:Hp}(a:Same H H1)(b:Same H1 H2):Same H H2:=fun c o h=>b c o (a c o h)
&jS {env:Env}:∀ (names:List (Str×NameKind)) (acc:List (Str×Addr)),
  (∀x,(x,NameKind.free)∈names->∃ c,env.cells.lookup x=some c) →
  (∀x c,acc.lookup x=some c->env.cells.lookup x=some c) →
  ∃cl,(forIn (m:=Sem) names acc (fun x cs=>(if (x.2 == NameKind.free)=true then do let a <-cellOf env x.1;pure (ForInStep.yield ((x.1,a)::cs))else pure (ForInStep.yield cs))))=pure cl ∧
   (∀x c,cl.lookup x=some c->env.cells.lookup x=some c) ∧
   (∀x,(x,NameKind.free)∈names->∃ c,cl.lookup x=some c)/\(∀x c,acc.lookup x=some c->∃ c',cl.lookup x=some c')
 | [],acc,_,h=>⟨acc,rfl,h,fun x hx=>by simp at hx,fun x c e=>⟨c,e⟩⟩
 | (n,k)::r,acc,hf,h=>by
  by_cases hk:k=NameKind.free
  ·subst hk
   &⟨c,hc⟩:=hf n (by simp)
   have h':∀ x c',((n,c)::acc).lookup x=some c'->env.cells.lookup x=some c':=fun x c' e=>by
    rw [List.lookup_cons]at e
    cases q:x == n with
    | true=>
     rw [q]at e
     have e2:c=c':=Option.some.inj e
     have e3:x=n:=by simpa using q
     rw [<-e2,e3];#hc
    | false=>rw [q]at e;#h x c' e
   &⟨cl,e1,e2,e3,e4⟩:=jS r ((n,c)::acc) (fun x hx=>hf x (List.mem_cons_of_mem _ hx)) h'
   &⟨cl,?_,e2,fun x hx=> ?_,fun x c' e=> ?_⟩
   ·rw [List.forIn_cons]
    simp only [beq_self_eq_true,if_true,cellOf,hc,pure_bind]
    #e1
   ·rcases List.mem_cons.mp hx with z | z
    ·have z1:x=n:=by injection z
     subst z1
     #e4 x c (by simp [List.lookup_cons])
    ·#e3 x z
   ·cases q:x == n with
    | true=>#e4 x c (by simp [List.lookup_cons,q])
    | false=>#e4 x c' (by simp [List.lookup_cons,q,e])
  ·have hb:(k == NameKind.free)=false:=by simpa using hk
   &⟨cl,e1,e2,e3,e4⟩:=jS r acc (fun x hx=>hf x (List.mem_cons_of_mem _ hx)) h
   &⟨cl,?_,e2,fun x hx=> ?_,e4⟩
   ·rw [List.forIn_cons]
    simp only [hb,Bool.false_eq_true,if_false,pure_bind]
    #e1
   ·rcases List.mem_cons.mp hx with z | z
    ·have z1:NameKind.free=k:=by injection z
     #absurd z1.symm hk
    ·#e3 x z
&tR {env:Env}{scope:Scope}(hf:∀ x,(x,NameKind.free)∈scope.names->∃ c,env.cells.lookup x=some c) :
  ∃cl,closureFor scope env=pure cl/\(∀x c,cl.lookup x=some c->env.cells.lookup x=some c)/\(∀x,(x,NameKind.free)∈scope.names->∃ c,cl.lookup x=some c):=by
 &⟨cl,e1,e2,e3,_⟩:=jS scope.names [] hf (fun x c e=>by simp at e)
 &⟨cl,?_,e2,e3⟩
 #,closureFor
 &Eq.trans ?_ (congrArg (fun z=>z >>= pure) e1|>.trans (by simp))
 rfl
&qw {pr:Program}{wd:World}{Ar:Around}{Rz:Result->Shared->Prop}{s0:Shared}{el tg it0:Expr}{cs:List Expr}{sc:Scope}{ps:Pos}{itv av:Value}{ev:Env}(W:Nat->Shared->Prop)
  (go:∀ k st,W k st->wpAny (model pr wd) Ar (pyNext itv) (fun r s1=>match r with
   | none=>Rz (.ok .next) s1
   | some v=>wpAny (model pr wd) Ar (letOwnedTupleGo tg itv v) (fun _ s2=>wpAny (model pr wd) Ar (assign tg ev v) (fun _ s3=>
     wpAny (model pr wd) Ar (forIn cs true fun c b=>if b=true then do let z <-isTrue c ev (eval c ev);pure (ForInStep.yield z)else pure (ForInStep.yield b)) (fun z s4=>
      if z=true then wpAny (model pr wd) Ar (eval el ev) (fun y s5=>
       wpAny (model pr wd) Ar (call (.builtin "list.append") [av,y]) (fun _ s6=> ∃m,m<k/\W m s6) (fun _ _=>False) s5) (fun _ _=>False) s4
      else ∃m,m<k/\W m s4) (fun _ _=>False) s3) (fun _ _=>False) s2) (fun _ _=>False) s1) (fun _ _=>False) st)
  (k:Nat) (hk:W k s0):codeAny (model pr wd) Ar (.compLoop (.ListComp el [⟨tg,it0,cs,0⟩] sc ps) 0 itv av ev) Rz s0:=by
 &codeAny_loop rfl W (fun k st hw=> ?_) k hk
 show wpAny (model pr wd) Ar ((compTurn (.ListComp el [⟨tg,it0,cs,0⟩] sc ps) 0 itv av ev).onRaise (fun z=>do noteFrame z ev;theTreesLotGoes z)) _ _ st
 &wpAny_noted ?_
 rw [compTurn_list]
 have no:∀ {α:Type} {t:Sem α} {Q Q':α->Shared->Prop} {E':Value->Shared->Prop} {x:Shared},wpAny (model pr wd) Ar t Q (fun _ _=>False) x->(∀y z,Q y z->Q' y z)->wpAny (model pr wd) Ar t Q' E' x:=fun h f=>wpAny_mono h f fun _ _ z=>z.elim
 &wpAny_bind (wpAny_standAt (wpAny_bind (no (go k st hw) fun r s1 g1=> ?_)))
 cases r with
 | none=>#wpAny_pure g1
 | some v=>
  &wpAny_bind (no g1 fun _ s2 g2=>wpAny_bind (no g2 fun _ s3 g3=>wpAny_bind (no g3 fun z s4 g4=> ?_)))
  cases z with
  | false=>#wpAny_pure (And.intro rfl g4)
  | true=>#wpAny_bind (wpAny_bind (no g4 fun y s5 g5=>wpAny_bind (no g5 fun _ s6 g6=>wpAny_pure (wpAny_pure (And.intro rfl g6)))))
def bW (X:Cx)(scope:Scope)(cl:List (Str×Addr))(N':List Str)(C:Addr)(s₀:Shared)(H₀:Hp)(fp:List Addr):Cx:=
 { X with N:=N',s₀:=s₀,H₀:=H₀,env:=compEnvC scope cl C X.env,outer:=X.stack,stack:=X.stack,ex:=fp,fn:=fun x=>scope.names.lookup x == some .cell,xe:=fun _ _=>False }
def fK (src:List (Option Nat))(σ:St):St:=src.map fun o=>match o with
 | some i=>(σ[i]?).join
 | none=>none
&iO {env:Env}:∀ {names:List (Str×NameKind)} {x:Str} {k:NameKind},
  (names.map fun(n,k)=>if (k == NameKind.free&&env.scope.kind == .function&&env.kindOf n == some .cell)then(n,NameKind.cell)else(n,k)).lookup x=some k →
  ∃k',names.lookup x=some k'/\(k=k'\/k'= .free)
 | [],_,_,h=>by simp at h
 | (n,k0)::r,x,k,h=>by
  have ih:=@iO env r x k
  have h':List.lookup x ((if (k0 == NameKind.free&&env.scope.kind == .function&&env.kindOf n == some .cell)=true then(n,NameKind.cell)else(n,k0))::(r.map fun(n,k)=>if (k == NameKind.free&&env.scope.kind == .function&&env.kindOf n == some .cell)then(n,NameKind.cell)else(n,k)))=some k:=h
  by_cases hc:(k0 == NameKind.free&&env.scope.kind == .function&&env.kindOf n == some .cell)=true
  ·rw [if_pos hc]at h'
   rw [List.lookup_cons]at h' ⊢
   cases hx:x == n with
   | true=>
    &⟨k0,rfl,.inr ?_⟩
    have:=Bool.and_eq_true_iff.mp hc|>.1
    have:=Bool.and_eq_true_iff.mp this|>.1
    simpa using this
   | false=>rw [hx]at h';#ih h'
  ·rw [if_neg hc]at h'
   rw [List.lookup_cons]at h' ⊢
   cases hx:x == n with
   | true=>rw [hx]at h';#⟨k0,rfl,.inl (Option.some.inj h').symm⟩
   | false=>rw [hx]at h';#ih h'
&ji {names:List (Str×NameKind)}{x:Str}{k:NameKind}(h:names.lookup x=some k):(x,k)∈names:=PySem.mem_of_lookup h
&ik {env:Env}:∀ {names:List (Str×NameKind)} {x:Str},names.lookup x=some .free →
  (names.map fun(n,k)=>if (k == NameKind.free&&env.scope.kind == .function&&env.kindOf n == some .cell)then(n,NameKind.cell)else(n,k)).lookup x=some .cell ∨
  (names.map fun(n,k)=>if (k == NameKind.free&&env.scope.kind == .function&&env.kindOf n == some .cell)then(n,NameKind.cell)else(n,k)).lookup x=some .free
 | [],_,h=>by simp at h
 | (n,k0)::r,x,h=>by
  have ih:=@ik env r x
  show List.lookup x ((if (k0 == NameKind.free&&env.scope.kind == .function&&env.kindOf n == some .cell)=true then(n,NameKind.cell)else(n,k0))::_)=_\/List.lookup x ((if (k0 == NameKind.free&&env.scope.kind == .function&&env.kindOf n == some .cell)=true then(n,NameKind.cell)else(n,k0))::_)=_
  rw [List.lookup_cons]at h
  by_cases hc:(k0 == NameKind.free&&env.scope.kind == .function&&env.kindOf n == some .cell)=true
  ·rw [if_pos hc]
   rw [List.lookup_cons]
   cases hx:x == n with
   | true=>#.inl rfl
   | false=>rw [hx]at h;#ih h
  ·rw [if_neg hc]
   rw [List.lookup_cons]
   cases hx:x == n with
   | true=>rw [hx]at h;#.inr h
   | false=>rw [hx]at h;#ih h
section
variable {X:Cx}
structure LcScope (X:Cx)(scope:Scope)(N':List Str)(src:List (Option Nat)):Prop where
 kind:scope.kind= .function
 cel:∀ y∈scope.names,y.2= .cell->scope.names.lookup y.1=some .cell
 loc:∀ y∈scope.names,y.2= .local->scope.names.lookup y.1=some .local
 len:src.length=N'.length
 from_:∀ (j i:Nat) (x:Str),src[j]? =some (some i)->N'[j]? =some x->X.N[i]? =some x/\scope.names.lookup x=some .free
 free:∀ x,(x,NameKind.free)∈scope.names->X.env.kindOf x=some .cell\/X.env.kindOf x=some .free
def tLc (K:PySem.W.Frag)(wi:TI)(src:List (Option Nat))(g:TG)(tc:TT)(te:TE):TE:=fun σ H Q=>wi σ H fun J H1=> ∀D,H1 D=none->K.lookup D=none →
 ∃W:Nat->Nat->St->List V->Hp->Prop,(∃m,W 0 m (fK src σ) [] (upd H1 D (.lst [])))/\∀ i m σ ys H,W i m σ ys H->H D=some (.lst ys) ∧
  ((J.stop i H/\Q (.ref D) H)\/(J.go i H/\ys.length<sizeLine/\∀ x H',J.yld i H x H'->g x σ H' fun σ2 H2=>tc σ2 H2 fun b H3=>
   if b=true then te σ2 H3 fun v H4=>H4 D=some (.lst ys)/\∃ m',m'<m/\W (i+1) m' σ2 (ys++ [v]) (upd H4 D (.lst (ys++ [v])))else ∃m',m'<m/\W (i+1) m' σ2 ys H3))
def wr (X:Cx)(ifs:List Expr)(t:TT):Prop:=
 ∀(pins:List (Addr×Obj)) (s:Shared) (σ:St) (H:Hp) (Q:Bool->Hp->Prop),Inv X pins σ H s->t σ H Q →
  wpAny (model X.prog X.w) X.A (forIn ifs true fun c r=>if r=true then do let ok <-isTrue c X.env (eval c X.env);pure (ForInStep.yield ok)else pure (ForInStep.yield r)) (TP X pins σ Q) X.xe s
def qQ:TT:=fun _ H Q=>Q true H
&pQ:wr X [] qQ:=fun _ _ _ H _ I h=>wpAny_tests_nil ⟨H,I,h⟩
&pif_one {c:Expr}{t:TT}(h:PT X c t):wr X [c] t:=fun pins s σ H Q I q=>wpAny_tests_one (h pins s σ H Q I q)
&kY:∀ (names:List (Str×NameKind)) (h:Heap) (acc:List (Str×Addr)),(∀x y c,acc.lookup x=some c->acc.lookup y=some c->x=y)->(∀x c,acc.lookup x=some c->c<h.objs.size) →
  (∀x c,(cellsFrom h.objs.size names acc).lookup x=some c->acc.lookup x=some c\/(h.objs.size<=c/\(pushCells h names).IsCell c none)) ∧
  (∀x y c,(cellsFrom h.objs.size names acc).lookup x=some c->(cellsFrom h.objs.size names acc).lookup y=some c->x=y) ∧
  (∀x,(x,NameKind.cell)∉names->(cellsFrom h.objs.size names acc).lookup x=acc.lookup x) ∧
  (∀x,((x,NameKind.cell)∈names\/∃ c,acc.lookup x=some c)->∃ c,(cellsFrom h.objs.size names acc).lookup x=some c) ∧
  (∀x c,(x,NameKind.cell)∈names->(cellsFrom h.objs.size names acc).lookup x=some c->h.objs.size<=c)
 | [],h,acc,hi,_=>⟨fun _ _ e=> .inl e,hi,fun _ _=>rfl,fun x e=>e.elim (fun z=>absurd z List.not_mem_nil) id,fun _ _ z=>absurd z List.not_mem_nil⟩
 | (n,k)::r,h,acc,hi,hl=>by
  #,cellsFrom pushCells
  by_cases hk:k= .cell
  ·subst hk
   rw [if_pos (by rfl),if_pos (by rfl)]
   have hz:(h.push { cls:=.type "cell",data:=.cell none }).objs.size=h.objs.size+1:=Heap.size_push ..
   have lk:∀ x,((n,h.objs.size)::acc).lookup x=if x=n then some h.objs.size else acc.lookup x:=fun x=>by
    rw [List.lookup_cons]
    by_cases e:x=n
    ·rw [if_pos e,beq_iff_eq.mpr e]
    ·rw [if_neg e,beq_eq_false_iff_ne.mpr e]
   &⟨c1,c2,c3,c4,c5⟩:=kY r (h.push { cls:=.type "cell",data:=.cell none }) ((n,h.objs.size)::acc) (fun x y c e1 e2=>by
     rw [lk]at e1 e2
     by_cases q1:x=n
     ·by_cases q2:y=n
      ·rw [q1,q2]
      ·rw [if_pos q1]at e1;rw [if_neg q2]at e2
       cases e1
       #absurd (hl _ _ e2) (Nat.lt_irrefl _)
     ·rw [if_neg q1]at e1
      by_cases q2:y=n
      ·rw [if_pos q2]at e2
       cases e2
       #absurd (hl _ _ e1) (Nat.lt_irrefl _)
      ·rw [if_neg q2]at e2;#hi x y c e1 e2) (fun x c e=>by
     rw [lk]at e
     rw [hz]
     by_cases q:x=n
     ·rw [if_pos q]at e;cases e;#Nat.lt_succ_self _
     ·rw [if_neg q]at e;#Nat.lt_succ_of_lt (hl x c e))
   rw [hz]at c1 c2 c3 c4 c5
   &⟨fun x c e=> ?_,c2,fun x hx=> ?_,fun x hx=> ?_,fun x c hx e=> ?_⟩
   ·rcases c1 x c e with z | z
    ·rw [lk]at z
     by_cases q:x=n
     ·rw [if_pos q]at z;cases z
      #.inr ⟨Nat.le_refl _,_,pushCells_keeps r _ _ _ (Heap.get?_push_size _ rfl),rfl⟩
     ·rw [if_neg q]at z;#.inl z
    ·#.inr ⟨Nat.le_of_succ_le z.1,z.2⟩
   ·rw [c3 x fun z=>hx (List.mem_cons_of_mem _ z),lk,if_neg fun z=>hx (by rw [z];#List.mem_cons_self)]
   ·&c4 x ?_
    rcases hx with hx | hx
    ·rcases List.mem_cons.mp hx with z | z
     ·cases z
      #.inr ⟨_,by rw [lk,if_pos rfl]⟩
     ·#.inl z
    ·by_cases q:x=n
     ·#.inr ⟨_,by rw [lk,if_pos q]⟩
     ·#.inr (by rw [lk,if_neg q];#hx)
   ·rcases List.mem_cons.mp hx with z | z
    ·have q:x=n:=(Prod.mk.inj z).1
     rcases c1 x c e with y | y
     ·rw [lk,if_pos q]at y;cases y;#Nat.le_refl _
     ·#Nat.le_of_succ_le y.1
    ·#Nat.le_of_succ_le (c5 x c z e)
  ·have hb:¬ (k == NameKind.cell)=true:=fun z=>hk (by simpa using z)
   rw [if_neg hb,if_neg hb]
   &⟨c1,c2,c3,c4,c5⟩:=kY r h acc hi hl
   #⟨c1,c2,fun x hx=>c3 x fun z=>hx (List.mem_cons_of_mem _ z),fun x hx=>c4 x (hx.imp (fun z=>(List.mem_cons.mp z).resolve_left fun z=>hk (Prod.mk.inj z).2.symm) id),fun x c hx=>c5 x c ((List.mem_cons.mp hx).resolve_left fun z=>hk (Prod.mk.inj z).2.symm)⟩
&vE {M:Model}{A:Around}{E:Value->Shared->Prop}{s:Shared}{scope:Scope}{globals:Addr}{cl:List (Str×Addr)}{qual:Str}{env:Env}{Q:Env->Shared->Prop}
  (q:Q (newEnv scope s.heap.objs.size globals (cellsFrom (s.heap.objs.size+1) scope.names cl) qual none .none (some env) builtinsNs) { s with heap:=pushCells (s.heap.push { cls:=.type "dict",data:=.dict #[] }) scope.names }) :
  wpAny M A (newFunctionEnv scope globals cl [] qual none .none (some env)) Q E s:=by
 simp only [newFunctionEnv,Option.isSome_some,if_true]
 &wpAny_bind (wpAny_alloc (wpAny_bind (wpAny_layCells _ (fun name kind cells=>by cases hkc:kind == NameKind.cell <;> simp [hkc]) _ _ _ _ ?_)))
 rw [show({ s with heap:=s.heap.push { cls:=.type "dict",data:=.dict #[] } }:Shared).heap.objs.size=s.heap.objs.size+1 from Heap.size_push ..]
 rw [List.forIn_nil]
 #wpAny_bind (wpAny_pure (wpAny_pure q))
&uI {elt tg iter:Expr}{ifs:List Expr}{scope:Scope}{pos fpos:Pos}{N':List Str}{src:List (Option Nat)}{wi:TI}{g:TG}{tc:TT}{te:TE}{use:Option (Value->Sem Unit)}{Qf:Value->Shared->Prop}
  {pins:List (Addr×Obj)} {s:Shared} {σ:St} {H:Hp} {Q:VK}
  (hc:X.calm=true) (S:LcScope X scope N' src) (hi:PI X tg iter wi)
  (block:∀ cl C s₀ H₀ fp,PG (bW X scope cl N' C s₀ H₀ fp) tg g/\wr (bW X scope cl N' C s₀ H₀ fp) ifs tc/\PE (bW X scope cl N' C s₀ H₀ fp) elt te)
  (hs:∀ x,foldedSetIterable iter X.env x=pure x) (I:Inv X pins σ H s) (h:tLc X.K wi src g tc te σ H Q)
  (hend:∀ (D C:Addr) (H':Hp) (s':Shared),(∃m,s'.heap.Ns C m)->(∀h',Heap.SameBut C s'.heap h'->Inv X pins σ H' { s' with heap:=h' })->(H' C=none/\C≠X.env.locals/\X.s₀.heap.objs.size<=C/\(∀x c,X.env.cells.lookup x=some c->c≠C)/\∀ p∈X.pn++pins,p.1≠C)->Q (.ref D) H' →
   compPost (model X.prog X.w) X.A X.xe use Qf (.ref D) C (.ok .next) s') :
  wpAny (model X.prog X.w) X.A (comprehension (.ListComp elt [⟨tg,iter,ifs,0⟩] scope pos) scope X.env fpos (newList []) false (eval iter X.env) use) Qf X.xe s:=by
 have hcell:∀ x,(x,NameKind.free)∈scope.names->∃ c,X.env.cells.lookup x=some c:=fun x hx=>I.ok.has x (S.free x hx)
 &⟨cl0,hcl,cl01,cl02⟩:=tR (env:=X.env) (scope:=scope) hcell
 &wpAny_comprehension_free (use:=use) rfl hs hcl S.kind S.loc (bU (hi pins s σ H _ I h) fun v s1 h1=>bU h1 fun itv s2 h2=> ?_)
 &⟨it,fp,tn,J,H2,e,I2,T,st2,f2,hq⟩:=h2
 subst e
 -- the new list
 &wpAny_newObj_type ?_
 have hD:H2 s2.heap.objs.size=none:=I2.hok.fresh (Nat.le_refl _)
 have hDK:X.K.lookup s2.heap.objs.size=none:=by
  cases q:X.K.lookup s2.heap.objs.size with
  | none=>rfl
  | some o=>#absurd (Heap.lt_size (I2.kIn _ o q)) (Nat.lt_irrefl _)
 &⟨W,⟨m0,w0⟩,turn⟩:=hq s2.heap.objs.size hD hDK
 have I3:=I2.lnew (its:=[]) (ys:=[]) (t':=s2.toks) .nil (Nat.zero_le _)
 generalize hs3:({ s2 with heap:=s2.heap.push { cls:=.type "list",data:=.seq ([]:List Value).toArray },toks:=s2.toks }:Shared)=s3 at I3
 generalize hH3:upd H2 s2.heap.objs.size (.lst [])=H3 at I3 w0
 have hDsz:s2.heap.objs.size<s3.heap.objs.size:=by rw [<-hs3];simp [Heap.size_push]
 have fr3:∀ b∈fp,H3 b=none:=fun b hb=>by
  &⟨o,eo,_⟩:=T.obj _ _ st2 b hb
  rw [<-hH3,aF (Nat.ne_of_lt (Heap.lt_size eo))]
  #(f2 b hb).1
 have st3:tn 0 s3.heap:=T.keep _ _ _ st2 fun b hb o e=>by rw [<-hs3];#Heap.get?_push_of_some _ e
 have f3:∀ b∈fp,nQ X pins H3 b:=fun b hb=>⟨fr3 b hb,(f2 b hb).2⟩
 have D3:H3 s2.heap.objs.size=some (.lst []):=by rw [<-hH3];#aG
 generalize s2.heap.objs.size=D at*
 clear hs3 hH3 hD hDK
 -- the block's frame
 &vE ?_
 have old:∀ b o,s3.heap.get? b=some o->(pushCells (s3.heap.push { cls:=.type "dict",data:=.dict #[] }) scope.names).get? b=some o:=fun b o e=>pushCells_keeps _ _ b o (Heap.get?_push_of_some _ e)
 have hns₁:(pushCells (s3.heap.push { cls:=.type "dict",data:=.dict #[] }) scope.names).Ns s3.heap.objs.size (fun _=>none):=(Heap.Ns.new s3.heap (.type "dict")).keeps (pushCells_keeps _ _)
 have hz3:(s3.heap.push { cls:=.type "dict",data:=.dict #[] }).objs.size=s3.heap.objs.size+1:=Heap.size_push ..
 have lt0:∀ x c,cl0.lookup x=some c->c<s3.heap.objs.size:=fun x c e=>let ⟨_,ic⟩:=I3.cell x c (cl01 x c e);ic.lt
 &⟨c1,c2,c3,c4,c5⟩:=kY scope.names (s3.heap.push { cls:=.type "dict",data:=.dict #[] }) cl0 (fun x y c e1 e2=>I3.ok.inj x y c (cl01 x c e1) (cl01 y c e2)) fun x c e=>by rw [hz3];#Nat.lt_succ_of_lt (lt0 x c e)
 rw [hz3]at c1 c2 c3 c4 c5
 generalize hcl':cellsFrom (s3.heap.objs.size+1) scope.names cl0=cl at*
 generalize hh₁:pushCells (s3.heap.push { cls:=.type "dict",data:=.dict #[] }) scope.names=h₁ at*
 have below:∀ b o,s3.heap.get? b=some o->b≠s3.heap.objs.size:=fun b o e=>Nat.ne_of_lt (Heap.lt_size e)
 -- a cell of the block's: one from around,or a new one
 have cl1:∀ x c,cl.lookup x=some c->X.env.cells.lookup x=some c\/(s3.heap.objs.size<c/\h₁.IsCell c none):=fun x c e=>(c1 x c e).imp (cl01 x c) id
 generalize hC:s3.heap.objs.size=C at*
 have stk:∀ b,b≠X.env.locals->b∉X.fs->b∉ni X.stack:=fun b h1 h2 z=>(List.mem_cons.mp (I3.stkSub b z)).elim h1 h2
 have apart:∀ b∈fp,∀x c,cl.lookup x=some c->c≠b:=fun b hb x c e=>by
  rcases cl1 x c e with z | z
  ·#(f3 b hb).2.2.2.2.1 x c z
  ·&⟨o,eo,_⟩:=T.obj _ _ st3 b hb
   have h1:=Heap.lt_size eo
   rw [hC]at h1
   #Nat.ne_of_gt (Nat.lt_trans h1 z.1)
 have I4:Inv (bW X scope cl N' C s3 H3 fp) pins (fK src σ) H3 { s3 with heap:=h₁ }:=by
  &⟨⟨I3.ok.mod,S.kind,I3.ok.glob,I3.ok.blt,Nat.le_of_eq hC,c2,fun x hx=> ?_,fun x c hx e=>Nat.le_of_lt (hC▸c5 x c (ji (beq_iff_eq.mp hx)) e),I3.ok.hd,I3.ok.frames,.inl rfl,
    fun b hb=>⟨?_,fun x c e=>apart b hb x c e⟩,I3.bs,Nat.le_trans I3.ok.bsz I3.sz,fun b o e z=> ?_,fun b hb=>stk b (f3 b hb).2.1 (f3 b hb).2.2.1,I3.stack,I3.stkFree⟩,
   rfl,I3.bare,Un.kept old,⟨_,hns₁,fun j x v e1 e2 e3=> ?_⟩,fun x c e=> ?_,I3.hok.fresh (Nat.le_of_eq hC),fun x c e=>(cl1 x c e).elim (I3.freeC x c) fun z=>I3.hok.fresh (by rw [hC];#Nat.le_of_lt z.1),fun p hp=> ?_,I3.hok.kept old,?_⟩
  ·have key:∀ k,(relabel scope X.env).names.lookup x=some k->(k= .cell\/k= .free)->∃ c,cl.lookup x=some c:=fun k e hk=>by
    &⟨k',e',z⟩:=iO e
    have hk':k'= .cell\/k'= .free:=z.elim (fun z=>z▸hk) .inr
    rcases hk' with q | q
    ·#c4 x (.inl (q▸ji e'))
    ·#c4 x (.inr (cl02 x (q▸ji e')))
   rcases hx with hx | hx
   ·#key _ hx (.inl rfl)
   ·#key _ hx (.inr rfl)
  ·&⟨o,eo,_⟩:=T.obj _ _ st3 b hb
   show b≠C
   #below b o eo
  ·have z':b∈fp:=z
   &⟨_,_,_,z1,_⟩:=f3 b z'
   rcases z1 with z1 | z1
   ·#I3.ok.noex b o e z1
   ·#absurd (Nat.lt_of_lt_of_le (Heap.lt_size (I3.ok.bs b o e).1) z1) (Nat.lt_irrefl _)
  ·unfold fK at e2
   rw [List.getElem?_map]at e2
   cases q:src[j]? with
   | none=>rw [q]at e2;simp at e2
   | some o=>
    rw [q]at e2
    cases o with
    | none=>simp at e2
    | some i=>
     have e2':(σ[i]?).join=some v:=by simpa using e2
     have e2'':σ[i]? =some (some v):=by
      cases q2:σ[i]? with
      | none=>rw [q2]at e2';simp at e2'
      | some z=>rw [q2]at e2';simp at e2';rw [e2']
     &⟨hN,hfree⟩:=S.from_ j i x q e1
     have hm:=ji hfree
     have hk:=S.free x hm
     &⟨m,hn,hl⟩:=I3.loc
     have hv:qH X.env.scope x:=by
      rcases hk with z | z
      ·#.inr (.inl z)
      ·#.inr (.inr z)
     &⟨u,r,l⟩:=hl i x v hN e2'' hv
     &⟨u,r,.inr ⟨?_,?_⟩⟩
     ·#ik hfree
     ·rcases l with⟨z,_⟩ | ⟨_,c,ec,ic⟩
      ·rcases hk with z' | z' <;> rw [z']at z <;> cases z
      ·&⟨c',ec0⟩:=cl02 x hm
       have ec':cl.lookup x=some c':=(c3 x fun z=>by have:=S.cel _ z rfl;rw [hfree]at this;cases this).trans ec0
       have:=cl01 x c' ec0
       rw [ec]at this
       cases this
       &⟨o,ho,hd⟩:=ic
       #⟨c,ec',o,old _ _ ho,hd⟩
  ·rcases cl1 x c e with z | z
   ·&⟨v,o,ho,hd⟩:=I3.cell x c z
    #⟨v,o,old _ _ ho,hd⟩
   ·#⟨none,z.2⟩
  ·&⟨e,n,ne,nf,d⟩:=I3.pin p hp
   #⟨old _ _ e,n,below _ _ e,stk _ ne nf,d⟩
  ·show(fK src σ).length=N'.length
   #,fK
   rw [List.length_map]
   #S.len
 &⟨bG,bI,bE⟩:=block cl C s3 H3 fp
 have stat:∀ {H':Hp},(∀b∈fp,H' b=none)->∀ b∈fp,nQ (bW X scope cl N' C s3 H3 fp) pins H' b:=fun hn b hb=>by
  &⟨o,eo,_⟩:=T.obj _ _ st3 b hb
  #⟨hn b hb,below b o eo,stk b (f3 b hb).2.1 (f3 b hb).2.2.1,.inl hb,apart b hb,(f3 b hb).2.2.2.2.2⟩
 have st4:tn 0 h₁:=T.keep _ _ _ st3 fun b hb o e=>old b o e
 -- behind the block
 have after:∀ (H':Hp) (s':Shared) (σ':St),Inv (bW X scope cl N' C s3 H3 fp) pins σ' H' s'->Q (.ref D) H' →
   compPost (model X.prog X.w) X.A X.xe use Qf (.ref D) C (.ok .next) s':=fun H' s' σ' I' q=>by
  &⟨m,hn,_⟩:=id I'.loc
  have fC:X.s₀.heap.objs.size<=C:=by rw [<-hC];#I3.sz
  have ltC:∀ b o,s3.heap.get? b=some o->b<C:=fun b o e=>by rw [<-hC];#Heap.lt_size e
  &hend D C H' s' ⟨m,hn⟩ (fun h' hsb=> ?_) ⟨I'.free,?_,fC,fun x c e z=> ?_,fun p hp z=> ?_⟩ q
  rotate_left
  ·have:=I3.lt;rw [hC]at this;#Nat.ne_of_gt this
  ·&⟨v,ic⟩:=I3.cell x c e
   have:=ic.lt;rw [hC,z]at this;#Nat.lt_irrefl _ this
  ·have:=ltC _ _ (I3.pin p hp).1;rw [z]at this;#Nat.lt_irrefl _ this
  have u:Un (ni X.stack) fp H3 H' s3.heap s'.heap:=I'.base
  have lift:∀ b o,s3.heap.get? b=some o->∀ o',s'.heap.get? b=some o'->h'.get? b=some o':=fun b o e o' e'=>hsb.extBut b o' (below b o e) e'
  have u':Un (ni X.stack) fp H3 H' s3.heap h':=
   ⟨fun b o e n hb hx=>lift b o e o (u.keep b o e n hb hx),fun b o e n hb hx=>by
     &⟨sl,z⟩:=u.slot b o e n hb hx
     #⟨sl,lift b o e _ z⟩,u.free,fun b o e hx=>by
     &⟨o',z⟩:=u.there b o e hx
     #⟨o',lift b o e _ z⟩,u.tups,u.frzs,u.tbls⟩
  have hCn:H' C=none:=I'.free
  have hok':HOk X.prog X.w H' h':=fun b ob e=>by
   &(I'.hok b ob e).stay (fun c w' hc' q'=>(hsb.2 c ?_).trans q') (fun _ q=>q) fun _ _ q=>q
   rintro rfl
   rcases hc' with rfl | hc'
   ·rw [hCn]at e;cases e
   ·rw [hCn]at hc';cases hc'
  have I5:Inv X pins σ H' { s' with heap:=h' }:=I3.call' (s':={ s' with heap:=h' }) (ch:=fp) I'.os u' hok' I'.bare fun b hb=>⟨(f3 b hb).2.2.2.1,(f3 b hb).2.1,(f3 b hb).2.2.2.2.1,(f3 b hb).2.2.2.2.2⟩
  #I5
 have loop:codeAny (model X.prog X.w) X.A (.compLoop (.ListComp elt [⟨tg,iter,ifs,0⟩] scope pos) 0 (.ref it) (.ref D) (compEnvC scope cl C X.env))
   (compPost (model X.prog X.w) X.A X.xe use Qf (.ref D) C) { s3 with heap:=h₁ }:=by
  &qw (fun n s'=> ∃i σ' ys H',Inv (bW X scope cl N' C s3 H3 fp) pins σ' H' s'/\tn i s'.heap/\(∀b∈fp,H' b=none)/\W i n σ' ys H') ?_ m0 ⟨0,_,[],H3,I4,st4,fr3,w0⟩
  rintro n s5 ⟨i,σ5,ys,H5,I5,st5,fr5,w5⟩
  &⟨hDl,alt⟩:=turn i n σ5 ys H5 w5
  rcases alt with⟨stop,qn⟩ | ⟨go,hlen,step⟩
  ·&bU (T.done (bW X scope cl N' C s3 H3 fp) rfl rfl rfl hc i pins s5 σ5 H5 _ I5 (stat fr5) st5 stop) fun r s6 ⟨hr,I6⟩=> ?_
   subst hr
   #after H5 s6 σ5 I6 qn
  ·&bU (T.item (bW X scope cl N' C s3 H3 fp) rfl rfl rfl hc i pins s5 σ5 H5 _ I5 (stat fr5) st5 go) fun r s6 ⟨u,hr,h6⟩=> ?_
   subst hr
   &bU h6 fun _ s7 hh_=> ?_
   &⟨x,H7,I7,r7,y7,st7,fr7⟩:=hh_
   have I7':=I7.pinned (stat fr7) (T.obj _ _ st7)
   &bU (bG _ s7 σ5 H7 x u _ I7' r7 (step x H7 y7)) fun _ s8 hh_=> ?_
   &⟨σ8,H8,I8,q8⟩:=hh_
   &bU (bI _ s8 σ8 H8 _ I8 q8) fun ok s9 hh_=> ?_
   &⟨H9,I9,q9⟩:=hh_
   have again:∀ {σx:St} {Hx:Hp} {sx:Shared} {ys':List V},Inv (bW X scope cl N' C s3 H3 fp) (pins++mr fp s7.heap) σx Hx sx->(∃m',m'<n/\W (i+1) m' σx ys' Hx) →
     ∃m,m<n/\∃ i σ' ys H',Inv (bW X scope cl N' C s3 H3 fp) pins σ' H' sx/\tn i sx.heap/\(∀b∈fp,H' b=none)/\W i m σ' ys H':=fun {σx Hx sx ys'} Ix nx=>by
    &⟨m',hm,wx⟩:=nx
    &⟨m',hm,i+1,σx,ys',Hx,Ix.unpinned,T.keep _ _ _ st7 fun b hb o e=>(Ix.pin (b,o) (List.mem_append_right _ (List.mem_append_right _ (g8 hb e)))).1,fun b hb=> ?_,wx⟩
    &⟨o,e,d⟩:=T.obj _ _ st7 b hb
    #(Ix.pin (b,o) (List.mem_append_right _ (List.mem_append_right _ (g8 hb e)))).2.1
   cases ok with
   | false=>
    rw [if_neg Bool.false_ne_true]at q9 ⊢
    #again I9 q9
   | true=>
    rw [if_pos rfl]at q9 ⊢
    &bU (bE _ s9 σ8 H9 _ I9 q9) fun v s10 hh_=> ?_
    &⟨y,H10,I10,r10,hD10,q10⟩:=hh_
    &bU (oH _ s10 σ8 H10 (.ref D) [y] (.ref D) [v] (fun _ H'=>H'=upd H10 D (.lst (ys++ [y]))) I10 rfl (.cons r10 .nil) ⟨D,ys,y,rfl,rfl,hD10,hlen,rfl⟩) fun _ s11 hh_=> ?_
    &⟨_,H11,I11,_,e11⟩:=hh_
    subst e11
    #again I11 q10
 #codeAny_compStart_list loop (T.self _ 0 _ _ _ st4 loop)
&rz {elt tg iter:Expr}{ifs:List Expr}{scope:Scope}{pos:Pos}{N':List Str}{src:List (Option Nat)}{wi:TI}{g:TG}{tc:TT}{te:TE}
  (hc:X.calm=true) (S:LcScope X scope N' src) (hi:PI X tg iter wi)
  (block:∀ cl C s₀ H₀ fp,PG (bW X scope cl N' C s₀ H₀ fp) tg g/\wr (bW X scope cl N' C s₀ H₀ fp) ifs tc/\PE (bW X scope cl N' C s₀ H₀ fp) elt te)
  (hs:∀ x,foldedSetIterable iter X.env x=pure x:=by intro _;rfl) :
  PE X (.ListComp elt [⟨tg,iter,ifs,0⟩] scope pos) (tLc X.K wi src g tc te):=by
 intro pins s σ H Q I h
 rw [eval_ListComp]
 #uI (use:=none) hc S hi block hs I h fun D C H' s' ⟨m,hn⟩ inv _ q=>⟨m,hn,fun h' hsb=>⟨.ref D,H',inv h' hsb,rfl,q⟩⟩
&ps_lc {elt tg iter:Expr}{ifs:List Expr}{scope:Scope}{pos py spos:Pos}{N':List Str}{src:List (Option Nat)}{wi:TI}{g:TG}{tc:TT}{te:TE}{i:Nat}{y:Str}
  (hc:X.calm=true) (S:LcScope X scope N' src) (hi:PI X tg iter wi)
  (block:∀ cl C s₀ H₀ fp,PG (bW X scope cl N' C s₀ H₀ fp) tg g/\wr (bW X scope cl N' C s₀ H₀ fp) ifs tc/\PE (bW X scope cl N' C s₀ H₀ fp) elt te)
  (hN:X.N.Nodup) (hiy:X.N[i]? =some y) (hy:Loc X.env.scope y) (hsw:swapsWith (.ListComp elt [⟨tg,iter,ifs,0⟩] scope pos) (some (.Name y py)) spos.line X.env=pure true)
  (hf:X.fn y=true\/X.env.scope.names.lookup y=some .local) (hs:∀ x,foldedSetIterable iter X.env x=pure x:=by intro _;rfl) :
  PS X (.Assign [.Name y py] (.ListComp elt [⟨tg,iter,ifs,0⟩] scope pos) spos) (wL (tLc X.K wi src g tc te) (yw i)):=by
 intro pins s σ H D I h
 rw [exec_Assign_Name_used _ _ _ _ hsw]
 &wpAny_bind (wpAny_standAt (wpAny_bind ?_))
 show wpAny (model X.prog X.w) X.A (do let _ <-comprehension (.ListComp elt [⟨tg,iter,ifs,0⟩] scope pos) scope X.env _ (newList []) false (eval iter X.env) (some (assign (.Name y py) X.env))) _ _ s
 &wpAny_bind (bU (uI (use:=some (assign (.Name y py) X.env)) (Qf:=fun _ s'=>SP X pins D .next s') (Q:=fun v H'=>D.nx (σ.set i (some v)) H') hc S hi block hs I h fun L C H' s' ⟨m,hn⟩ inv ⟨c0,c1,c2,c3,c4⟩ q=> ?_) fun _ s' hq=>wpAny_pure (wpAny_pure hq))
 have I0:Inv X pins σ H' s':=inv s'.heap (Heap.SameBut.refl ..)
 show wpAny (model X.prog X.w) X.A (assign (.Name y py) X.env (.ref L)) _ _ s'
 &wpAny_assign_Name (ox I0 hN hiy hy (v:=.ref L) rfl (fun s2 I2 ⟨b,sb,hb⟩=> ?_) hf)
 have hbC:C≠b:=by
  rcases hb with z | z
  ·rw [z];#c1
  ·#fun w=>c3 y b z w.symm
 &⟨m,hn.sameBut sb hbC,fun h' hsb=> ?_⟩
 #⟨_,H',I2.turned (t':=s2.toks) (fun b' o hb' e=>(hsb.2 b' hb').trans e) c0 c1 (.inr c2) c3 c4,q⟩
end
end L2
namespace Tr
open PySem PySem.Spec PyProof.Rows L2
inductive T where
 | non | bl (b:Bool) | int (i:Int) | str (x:Str) | tup (l:List T) | lst (l:List T)
 /-- the law's script: a list of ints that is only read -/
 | scr (l:List Int)
 /-- a dict: its keys,its values -/
 | dct (ks vs:List T)
def keyEl:T->Option Key
 | .int i=>some (.inl i)
 | .str x=>some (.inr x)
 | _=>none
def mZ:List T->Option (List Key)
 | [] =>some []
 | t::l=>match keyEl t,mZ l with
  | some k,some r=>some (k::r)
  | _,_=>none
def aV:T->Option (List Key)
 | .tup l=>mZ l
 | _=>none
inductive Rs (α:Type) where
 | ok (a:α) | err (c:Str) | bad
def Rs.bind {α β:Type}(x:Rs α)(f:α->Rs β):Rs β:=match x with
 | .ok a=>f a
 | .err c=> .err c
 | .bad=> .bad
instance:Monad Rs where
 pure:=Rs.ok
 bind:=Rs.bind
@[simp] theorem aD {α β:Type} (a:α) (f:α->Rs β):(Rs.ok a >>= f)=f a:=rfl
@[simp] theorem pure_ok {α:Type} (a:α):(pure a:Rs α)=Rs.ok a:=rfl
@[simp] theorem bad_bind {α β:Type} (f:α->Rs β):((Rs.bad:Rs α) >>= f)= .bad:=rfl
@[simp] theorem err_bind {α β:Type} (c:Str) (f:α->Rs β):((Rs.err c:Rs α) >>= f)= .err c:=rfl
abbrev Ow:=Addr->Prop
mutual
def Rep (K:PySem.W.Frag)(O:Ow)(H:Hp):T->V->Prop
 | .non,v=>v= .non
 | .bl b,v=>v= .bl b
 | .int i,v=>v= .int i
 | .str x,v=>v= .str x
 | .tup l,v=> ∃a vs,v= .ref a/\¬ O a/\H a=some (.tup vs)/\Reps K O H l vs
 | .lst l,v=> ∃a vs,v= .ref a/\¬ O a/\H a=some (.lst vs)/\Reps K O H l vs
 | .scr l,v=> ∃a,v= .ref a/\¬ O a/\SqL K H a (l.map V.int)
 | .dct ks ts,v=> ∃a kvs,v= .ref a/\¬ O a/\H a=some (.dT kvs)/\ks.map aV=kvs.map (fun p=>some p.1)/\Reps K O H ts (kvs.map (·.2))
def Reps (K:PySem.W.Frag)(O:Ow)(H:Hp):List T->List V->Prop
 | [],vs=>vs= []
 | t::r,vs=> ∃v ws,vs=v::ws/\Rep K O H t v/\Reps K O H r ws
end
def SameO (P:Ow)(H H':Hp):Prop:=∀ b o,H b=some o->¬ P b->H' b=some o
&SameO.of {P:Ow}{H H':Hp}(h:Same H H'):SameO P H H':=fun b o e _=>h b o e
&SqL.keep {K:PySem.W.Frag}{P:Ow}{H H':Hp}{a:Addr}{vs:List V}(h:SameO P H H')(n:¬ P a)(q:SqL K H a vs):SqL K H' a vs:=by
 rcases q with(q | ⟨o,q⟩) | q
 ·#.inl (.inl (h _ _ q n))
 ·#.inl (.inr ⟨o,h _ _ q n⟩)
 ·#.inr q
mutual
theorem Rep.keep {K:PySem.W.Frag}{O P:Ow}{H H':Hp}(h:SameO P H H')(sub:∀ a,P a->O a):∀ {t:T} {v:V},Rep K O H t v->Rep K O H' t v
 | .non,_,r=>by unfold Rep at r ⊢;#r
 | .bl _,_,r=>by unfold Rep at r ⊢;#r
 | .int _,_,r=>by unfold Rep at r ⊢;#r
 | .str _,_,r=>by unfold Rep at r ⊢;#r
 | .tup l,_,r=>by
  unfold Rep at r ⊢
  &⟨a,vs,e,n,q,z⟩:=r
  #⟨a,vs,e,n,h _ _ q (fun p=>n (sub a p)),Reps.keep h sub z⟩
 | .lst l,_,r=>by
  unfold Rep at r ⊢
  &⟨a,vs,e,n,q,z⟩:=r
  #⟨a,vs,e,n,h _ _ q (fun p=>n (sub a p)),Reps.keep h sub z⟩
 | .scr l,_,r=>by
  unfold Rep at r ⊢
  &⟨a,e,n,q⟩:=r
  #⟨a,e,n,SqL.keep h (fun p=>n (sub a p)) q⟩
 | .dct ks ts,_,r=>by
  unfold Rep at r ⊢
  &⟨a,kvs,e,n,q,k,z⟩:=r
  #⟨a,kvs,e,n,h _ _ q (fun p=>n (sub a p)),k,Reps.keep h sub z⟩
theorem Reps.keep {K:PySem.W.Frag}{O P:Ow}{H H':Hp}(h:SameO P H H')(sub:∀ a,P a->O a):∀ {l:List T} {vs:List V},Reps K O H l vs->Reps K O H' l vs
 | [],_,r=>by unfold Reps at r ⊢;#r
 | t::l,_,r=>by
  unfold Reps at r ⊢
  &⟨v,ws,e,p,q⟩:=r
  #⟨v,ws,e,Rep.keep h sub p,Reps.keep h sub q⟩
end
mutual
theorem Rep.less {K:PySem.W.Frag}{O O':Ow}{H:Hp}(sub:∀ a,O' a->O a):∀ {t:T} {v:V},Rep K O H t v->Rep K O' H t v
 | .non,_,r=>by unfold Rep at r ⊢;#r
 | .bl _,_,r=>by unfold Rep at r ⊢;#r
 | .int _,_,r=>by unfold Rep at r ⊢;#r
 | .str _,_,r=>by unfold Rep at r ⊢;#r
 | .tup l,_,r=>by
  unfold Rep at r ⊢
  &⟨a,vs,e,n,q,z⟩:=r
  #⟨a,vs,e,fun p=>n (sub a p),q,Reps.less sub z⟩
 | .lst l,_,r=>by
  unfold Rep at r ⊢
  &⟨a,vs,e,n,q,z⟩:=r
  #⟨a,vs,e,fun p=>n (sub a p),q,Reps.less sub z⟩
 | .scr l,_,r=>by
  unfold Rep at r ⊢
  &⟨a,e,n,z⟩:=r
  #⟨a,e,fun p=>n (sub a p),z⟩
 | .dct ks ts,_,r=>by
  unfold Rep at r ⊢
  &⟨a,kvs,e,n,q,k,z⟩:=r
  #⟨a,kvs,e,fun p=>n (sub a p),q,k,Reps.less sub z⟩
theorem Reps.less {K:PySem.W.Frag}{O O':Ow}{H:Hp}(sub:∀ a,O' a->O a):∀ {l:List T} {vs:List V},Reps K O H l vs->Reps K O' H l vs
 | [],_,r=>by unfold Reps at r ⊢;#r
 | t::l,_,r=>by
  unfold Reps at r ⊢
  &⟨v,ws,e,p,q⟩:=r
  #⟨v,ws,e,Rep.less sub p,Reps.less sub q⟩
end
section
variable {K:PySem.W.Frag}{O:Ow}{H H':Hp}{t:T}{v:V}{l:List T}{vs:List V}
&Rep.same (h:Same H H')(r:Rep K O H t v):Rep K O H' t v:=Rep.keep (P:=fun _=>False) (SameO.of h) (fun _ z=>z.elim) r
&Reps.same (h:Same H H')(r:Reps K O H l vs):Reps K O H' l vs:=Reps.keep (P:=fun _=>False) (SameO.of h) (fun _ z=>z.elim) r
&Rep.non_:Rep K O H .non .non:=by #,Rep;rfl
&Rep.bl_ (b:Bool):Rep K O H (.bl b) (.bl b):=by #,Rep;rfl
&Rep.int_ (i:Int):Rep K O H (.int i) (.int i):=by #,Rep;rfl
&Rep.str_ (x:Str):Rep K O H (.str x) (.str x):=by #,Rep;rfl
&Rep.tup_iff:Rep K O H (.tup l) v↔ ∃a vs,v= .ref a/\¬ O a/\H a=some (.tup vs)/\Reps K O H l vs:=by #,Rep;#Iff.rfl
&Rep.lst_iff:Rep K O H (.lst l) v↔ ∃a vs,v= .ref a/\¬ O a/\H a=some (.lst vs)/\Reps K O H l vs:=by #,Rep;#Iff.rfl
&Rep.dct_iff {ks ts:List T}:Rep K O H (.dct ks ts) v↔ ∃a kvs,v= .ref a/\¬ O a/\H a=some (.dT kvs)/\ks.map aV=kvs.map (fun p=>some p.1)/\Reps K O H ts (kvs.map (·.2)):=by #,Rep;#Iff.rfl
&Rep.int_iff {i:Int}:Rep K O H (.int i) v↔v= .int i:=by #,Rep;#Iff.rfl
&Rep.bl_iff {b:Bool}:Rep K O H (.bl b) v↔v= .bl b:=by #,Rep;#Iff.rfl
&Rep.str_iff {b:Str}:Rep K O H (.str b) v↔v= .str b:=by #,Rep;#Iff.rfl
&Rep.non_iff:Rep K O H .non v↔v= .non:=by #,Rep;#Iff.rfl
&Reps.nil_:Reps K O H [] []:=by #,Reps;rfl
&Reps.cons_ (r:Rep K O H t v)(q:Reps K O H l vs):Reps K O H (t::l) (v::vs):=by #,Reps;#⟨v,vs,rfl,r,q⟩
&Reps.nil_iff:Reps K O H [] vs↔vs= []:=by #,Reps;#Iff.rfl
&Reps.cons_iff:Reps K O H (t::l) vs↔ ∃v ws,vs=v::ws/\Rep K O H t v/\Reps K O H l ws:=by
 constructor
 ·intro h;unfold Reps at h;#h
 ·intro h;#,Reps;#h
end
section
variable {K:PySem.W.Frag}{O:Ow}{H H':Hp}
&Reps.length:∀ {l:List T} {vs:List V},Reps K O H l vs->l.length=vs.length
 | [],vs,r=>by rw [Reps.nil_iff.mp r];rfl
 | t::l,vs,r=>by
  &⟨v,ws,rfl,_,q⟩:=Reps.cons_iff.mp r
  simp [q.length]
&Reps.get:∀ {l:List T} {vs:List V} {i:Nat} {t:T},Reps K O H l vs->l[i]? =some t->∃ v,vs[i]? =some v/\Rep K O H t v
 | [],_,_,_,_,e=>by simp at e
 | t::l,vs,i,u,r,e=>by
  &⟨v,ws,rfl,p,q⟩:=Reps.cons_iff.mp r
  cases i with
  | zero=>simp at e;subst e;#⟨v,rfl,p⟩
  | succ i=>
   &⟨z,e1,e2⟩:=q.get (i:=i) (t:=u) (by simpa using e)
   #⟨z,by simpa using e1,e2⟩
&Reps.append:∀ {l m:List T} {vs ws:List V},Reps K O H l vs->Reps K O H m ws->Reps K O H (l++m) (vs++ws)
 | [],_,vs,_,r,s=>by rw [Reps.nil_iff.mp r];#s
 | t::l,m,vs,ws,r,s=>by
  &⟨v,us,rfl,p,q⟩:=Reps.cons_iff.mp r
  #Reps.cons_ p (q.append s)
&Reps.take:∀ {l:List T} {vs:List V} (n:Nat),Reps K O H l vs->Reps K O H (l.take n) (vs.take n)
 | _,_,0,_=>Reps.nil_
 | [],vs,n+1,r=>by rw [Reps.nil_iff.mp r];#Reps.nil_
 | t::l,vs,n+1,r=>by
  &⟨v,us,rfl,p,q⟩:=Reps.cons_iff.mp r
  #Reps.cons_ p (q.take n)
&Reps.drop:∀ {l:List T} {vs:List V} (n:Nat),Reps K O H l vs->Reps K O H (l.drop n) (vs.drop n)
 | _,_,0,r=>r
 | [],vs,n+1,r=>by rw [Reps.nil_iff.mp r];#Reps.nil_
 | t::l,vs,n+1,r=>by
  &⟨v,us,rfl,p,q⟩:=Reps.cons_iff.mp r
  #q.drop n
&Reps.ints:∀ {ns:List Int},Reps K O H (ns.map T.int) (ns.map V.int)
 | [] =>Reps.nil_
 | n::r=>Reps.cons_ (Rep.int_ n) Reps.ints
end
inductive OT where
 | lst (l:List T) | dct (ks ts:List T) | dd (ks:List T) (rows:List (List T×List T))
def OT.view:OT->T
 | .lst l=> .lst l
 | .dct ks ts=> .dct ks ts
 | .dd ks rows=> .dct ks (rows.map fun r=> .dct r.1 r.2)
def RowsR (K:PySem.W.Frag)(O:Ow)(H:Hp):List (List T×List T)->List Addr->Prop
 | [],as=>as= []
 | r::rs,as=> ∃b bs kvs,as=b::bs/\H b=some (.dT kvs)/\r.1.map aV=kvs.map (fun p=>some p.1)/\Reps K O H r.2 (kvs.map (·.2))/\RowsR K O H rs bs
def ORep (K:PySem.W.Frag)(O M:Ow)(H:Hp):OT->V->Prop
 | .lst l,v=> ∃a vs,v= .ref a/\(∀b,M b↔b=a)/\H a=some (.lst vs)/\Reps K O H l vs
 | .dct ks ts,v=> ∃a kvs,v= .ref a/\(∀b,M b↔b=a)/\H a=some (.dT kvs)/\ks.map aV=kvs.map (fun p=>some p.1)/\Reps K O H ts (kvs.map (·.2))
 | .dd ks rows,v=> ∃a kvs as,v= .ref a/\(∀b,M b↔b=a\/b∈as)/\a∉as/\as.Nodup/\H a=some (.dT kvs)/\ks.map aV=kvs.map (fun p=>some p.1)/\kvs.map (·.2)=as.map V.ref/\RowsR K O H rows as
inductive Sl where
 | em | va (t:T) | ow (o:OT)
abbrev En:=List Sl
abbrev Mn:=Nat->Ow
def Mn.u (M:Mn):Ow:=fun a=> ∃i,M i a
def Mtb (H:Hp)(a:Addr):Prop:=(∃vs,H a=some (.lst vs))\/∃ kvs,H a=some (.dT kvs)
&Mtb.some {H:Hp}{a:Addr}(h:Mtb H a):∃ o,H a=some o:=h.elim (fun⟨_,e⟩=>⟨_,e⟩) fun⟨_,e⟩=>⟨_,e⟩
&Mtb.same {H H':Hp}(s:Same H H'){a:Addr}(h:Mtb H a):Mtb H' a:=h.elim (fun⟨vs,e⟩=> .inl ⟨vs,s _ _ e⟩) fun⟨k,e⟩=> .inr ⟨k,s _ _ e⟩
structure EnvM (K:PySem.W.Frag)(O:Ow)(M:Mn)(H:Hp)(ρ:En)(σ:L2.St):Prop where
 len:ρ.length=σ.length
 val:∀ (i:Nat) (t:T),ρ[i]? =some (.va t)->∃ v,σ[i]? =some (some v)/\Rep K O H t v
 own:∀ (i:Nat) (o:OT),ρ[i]? =some (.ow o)->∃ v,σ[i]? =some (some v)/\ORep K O (M i) H o v
 sub:∀ (i:Nat) (a:Addr),M i a->O a
 dis:∀ (i j:Nat) (a:Addr),M i a->M j a->i=j
 trk:∀ (a:Addr),O a->Mtb H a
&RowsR.same {K:PySem.W.Frag}{O:Ow}{H H':Hp}(h:Same H H'):∀ {rs:List (List T×List T)} {as:List Addr},RowsR K O H rs as->RowsR K O H' rs as
 | [],_,r=>r
 | _::_,_,⟨b,bs,kvs,e1,e2,e3,e4,e5⟩=>⟨b,bs,kvs,e1,h _ _ e2,e3,e4.same h,e5.same h⟩
&ORep.same {K:PySem.W.Frag}{O M:Ow}{H H':Hp}(h:Same H H'){o:OT}{v:V}(r:ORep K O M H o v):ORep K O M H' o v:=by
 cases o with
 | lst l=>&⟨a,vs,e1,e2,e3,e4⟩:=r;#⟨a,vs,e1,e2,h _ _ e3,e4.same h⟩
 | dct ks ts=>&⟨a,kvs,e1,e2,e3,e4,e5⟩:=r;#⟨a,kvs,e1,e2,h _ _ e3,e4,e5.same h⟩
 | dd ks rows=>&⟨a,kvs,as,e1,e2,e3,e4,e5,e6,e7,e8⟩:=r;#⟨a,kvs,as,e1,e2,e3,e4,h _ _ e5,e6,e7,e8.same h⟩
&EnvM.same {K:PySem.W.Frag}{O:Ow}{M:Mn}{H H':Hp}{ρ:En}{σ:L2.St}(h:Same H H')(e:EnvM K O M H ρ σ):EnvM K O M H' ρ σ where
 len:=e.len
 val:=fun i t q=>let ⟨v,e1,e2⟩:=e.val i t q;⟨v,e1,e2.same h⟩
 own:=fun i o q=>let ⟨v,e1,e2⟩:=e.own i o q;⟨v,e1,e2.same h⟩
 sub:=e.sub
 dis:=e.dis
 trk:=fun a q=>(e.trk a q).same h
def EnvO (K:PySem.W.Frag)(O:Ow)(H:Hp)(ρ:En)(σ:L2.St):Prop:=∃ M,EnvM K O M H ρ σ
section
variable {K:PySem.W.Frag}{O:Ow}{H H':Hp}{ρ:En}{σ:L2.St}
&EnvO.val (e:EnvO K O H ρ σ)(i:Nat)(t:T)(q:ρ[i]? =some (.va t)):∃ v,σ[i]? =some (some v)/\Rep K O H t v:=e.elim fun _ e=>e.val i t q
&EnvO.mtb (e:EnvO K O H ρ σ):∀ a,O a->Mtb H a:=e.elim fun _ e=>e.trk
&EnvO.trk (e:EnvO K O H ρ σ)(a:Addr)(z:O a):∃ o,H a=some o:=(e.mtb a z).some
&EnvO.same (h:Same H H')(e:EnvO K O H ρ σ):EnvO K O H' ρ σ:=e.elim fun M e=>⟨M,e.same h⟩
&EnvO.fresh (e:EnvO K O H ρ σ){p:Addr}(h:H p=none):¬ O p:=fun z=>by
 &⟨o,q⟩:=e.trk p z
 rw [h]at q;cases q
end
def Flt (h:Heap)(C e:Addr):Option Addr->Prop
 | none=> ∃oe vs,h.get? e=some oe/\oe.cls= .ref C/\oe.data= .fields vs/\vs[1]? =some .none
 | some T=>T≠e/\∃ oe vs,h.get? e=some oe/\oe.cls= .ref C/\oe.data= .fields vs/\vs[1]? =some (.ref T)/\∃ oT ts,h.get? T=some oT/\oT.data= .fields ts/\ts[3]? =some .none
def RzP (X:Cx)(pins:List (Addr×Obj))(P:Ow)(H:Hp)(c:Str)(ev:Value)(s':Shared):Prop:=
 ∃e T C σ' H',ev= .ref e/\X.mg c=some (.ref C)/\Inv X pins σ' H' s'/\SameO P H H'/\H' e=none/\(X.ex= []->X.s₀.heap.get? e=none)/\Flt s'.heap C e T/\(∀t,T=some t->H' t=none/\(X.ex= []->X.s₀.heap.get? t=none))/\∀ p∈X.pn++pins,p.1≠e/\T≠some p.1
def Nw (K:PySem.W.Frag)(H:Hp):Ow:=fun a=>H a=none/\K.lookup a=none
&gZ {K:PySem.W.Frag}{P:Ow}{H H1:Hp}(h:SameO P H H1){a:Addr}(n:Nw K H1 a):P a\/Nw K H a:=by
 by_cases hp:P a
 ·#.inl hp
 ·&.inr ⟨?_,n.2⟩
  cases q:H a with
  | none=>rfl
  | some o=>have:=h a o q hp;rw [n.1]at this;cases this
&SameO.trans {K:PySem.W.Frag}{P P1:Ow}{H H1 H2:Hp}(h:SameO P H H1)(h1:SameO P1 H1 H2)(sub:∀ a,P1 a->P a\/Nw K H a):SameO P H H2:=fun b o e n=>
 h1 b o (h b o e n) fun z=>(sub b z).elim n fun w=>by rw [w.1]at e;cases e
def XA (X:Cx)(P:Ow)(H:Hp)(c:Str):Prop:=∀ pins ev s',RzP X pins P H c ev s'->X.xe ev s'
&XA.later {X:Cx}{P P1:Ow}{H H1:Hp}{c:Str}(h:XA X P H c)(s:SameO P H H1)(sub:∀ a,P1 a->P a\/Nw X.K H a):XA X P1 H1 c:=fun pins ev s' ⟨e,T,C,σ',H',a1,a2,a3,a4,a5⟩=>
 h pins ev s' ⟨e,T,C,σ',H',a1,a2,a3,s.trans a4 sub,a5⟩
abbrev wn:Ow:=fun _=>False
def Post {α:Type}(X:Cx)(H:Hp)(r:Rs α)(k:α->Hp->Prop):Prop:=match r with
 | .ok t=> ∀H',Same H H'->k t H'
 | .err c=>XA X wn H c
 | .bad=>False
&Post.mono {α:Type}{X:Cx}{H:Hp}{r:Rs α}{k k':α->Hp->Prop}(h:Post X H r k)(f:∀ t H',Same H H'->k t H'->k' t H'):Post X H r k':=by
 cases r with
 | ok t=>#fun H' s=>f t H' s (h H' s)
 | err c=>#h
 | bad=>#h
&Post.later {α:Type}{X:Cx}{H H1:Hp}{r:Rs α}{k:α->Hp->Prop}(h:Post X H r k)(s:Same H H1):Post X H1 r k:=by
 cases r with
 | ok t=>#fun H' s'=>h H' (s.trans s')
 | err c=>#XA.later h (SameO.of s) fun _ z=>z.elim
 | bad=>#h
&Post.bind {α β:Type}{X:Cx}{H:Hp}{r:Rs α}{f:α->Rs β}{k:β->Hp->Prop}(h:Post X H (r >>= f) k):Post X H r fun t H'=>Post X H' (f t) k:=by
 cases r with
 | ok t=>#fun H' s=>Post.later h s
 | err c=>#h
 | bad=>#h
def tP (X:Cx)(f:En->Rs T):TE:=fun σ H Q=> ∃ρ O,EnvO X.K O H ρ σ/\Post X H (f ρ) fun t H'=> ∀v,Rep X.K O H' t v->Q v H'
def tPA (X:Cx)(f:En->Rs (List T)):TA:=fun σ H Q=> ∃ρ O,EnvO X.K O H ρ σ/\Post X H (f ρ) fun t H'=> ∀v,Reps X.K O H' t v->Q v H'
def wJ (X:Cx)(f:En->Rs Bool):TT:=fun σ H Q=> ∃ρ O,EnvO X.K O H ρ σ/\Post X H (f ρ) fun b H'=>Q b H'
abbrev b9 (X:Cx)(e:Expr)(f:En->Rs T):Prop:=PE X e (tP X f)
abbrev qE (X:Cx)(e:List Expr)(f:En->Rs (List T)):Prop:=PA X e (tPA X f)
abbrev sC (X:Cx)(e:Expr)(f:En->Rs Bool):Prop:=PT X e (wJ X f)
&PE.imp {X:Cx}{e:Expr}{t t':TE}(h:PE X e t)(w:∀ σ H Q,t' σ H Q->t σ H Q):PE X e t':=fun pins s σ H Q I q=>h pins s σ H Q I (w σ H Q q)
&PA.imp {X:Cx}{e:List Expr}{t t':TA}(h:PA X e t)(w:∀ σ H Q,t' σ H Q->t σ H Q):PA X e t':=fun pos pins s σ H Q I q=>h pos pins s σ H Q I (w σ H Q q)
&PT.imp {X:Cx}{e:Expr}{t t':TT}(h:PT X e t)(w:∀ σ H Q,t' σ H Q->t σ H Q):PT X e t':=fun pins s σ H Q I q=>h pins s σ H Q I (w σ H Q q)
&PS.imp {X:Cx}{e:Stmt}{t t':TS}(h:PS X e t)(w:∀ D σ H,t' D σ H->t D σ H):PS X e t':=fun pins s σ H D I q=>h pins s σ H D I (w D σ H q)
&PSs.imp {X:Cx}{e:List Stmt}{t t':TS}(h:PSs X e t)(w:∀ D σ H,t' D σ H->t D σ H):PSs X e t':=fun pins s σ H D I q=>h pins s σ H D I (w D σ H q)
section
variable {X:Cx}
&aU {σ:L2.St}{H:Hp}{ρ:En}{O:Ow}{α:Type}{f:En->Rs T}{k:T->Rs α}{Q:α->Hp->Prop}(E:EnvO X.K O H ρ σ)(h:Post X H (f ρ >>= k) Q) :
  tP X f σ H fun v H'=> ∃t,Rep X.K O H' t v/\Same H H'/\EnvO X.K O H' ρ σ/\Post X H' (k t) Q:=
 ⟨ρ,O,E,Post.mono h.bind fun t H' s q v r=>⟨t,r,s,E.same s,q⟩⟩
&fS {σ:L2.St}{H:Hp}{ρ:En}{O:Ow}{α:Type}{f:En->Rs (List T)}{k:List T->Rs α}{Q:α->Hp->Prop}(E:EnvO X.K O H ρ σ)(h:Post X H (f ρ >>= k) Q) :
  tPA X f σ H fun v H'=> ∃t,Reps X.K O H' t v/\Same H H'/\EnvO X.K O H' ρ σ/\Post X H' (k t) Q:=
 ⟨ρ,O,E,Post.mono h.bind fun t H' s q v r=>⟨t,r,s,E.same s,q⟩⟩
&j0 {σ:L2.St}{H:Hp}{ρ:En}{O:Ow}{α:Type}{f:En->Rs Bool}{k:Bool->Rs α}{Q:α->Hp->Prop}(E:EnvO X.K O H ρ σ)(h:Post X H (f ρ >>= k) Q) :
  wJ X f σ H fun b H'=>Same H H'/\EnvO X.K O H' ρ σ/\Post X H' (k b) Q:=
 ⟨ρ,O,E,Post.mono h.bind fun t H' s q=>⟨s,E.same s,q⟩⟩
def vr (i:Nat)(ρ:En):Rs T:=match ρ[i]? with
 | some (.va t)=> .ok t
 | _=> .bad
def cn (t:T)(_:En):Rs T:=.ok t
&q_var (i:Nat){x:Str}{pos:Pos}(hN:X.N[i]? =some x:=by rfl)(hv:qH X.env.scope x:=by first | #Or.inl rfl | #Or.inr (Or.inl rfl) | #Or.inr (Or.inr rfl))(hd:(x == ("__debug__" : Str))=false:=by decide)
  (hcd:(x == ("__classdict__" : Str))=false:=by decide):b9 X (.Name x pos) (vr i):=PE.imp (gY hN hv hd hcd) fun σ H Q hh_=>by
 &⟨ρ,O,E,h⟩:=hh_
 unfold vr at h
 split at h
 ·rename_i t e
  &⟨v,e1,e2⟩:=E.val i t e
  #⟨v,e1,h H (Same.refl H) v e2⟩
 ·#h.elim
&q_int {i j pos}:b9 X (.Constant (.int i) j pos) (cn (.int i)):=PE.imp sW fun σ H Q ⟨ρ,O,E,h⟩=>h H (Same.refl H) _ (Rep.int_ i)
&q_bl {i j pos}:b9 X (.Constant (.bool i) j pos) (cn (.bl i)):=PE.imp xC fun σ H Q ⟨ρ,O,E,h⟩=>h H (Same.refl H) _ (Rep.bl_ i)
&q_non {j pos}:b9 X (.Constant .none j pos) (cn .non):=PE.imp xw fun σ H Q ⟨ρ,O,E,h⟩=>h H (Same.refl H) _ Rep.non_
&q_str {i j pos}:b9 X (.Constant (.str i) j pos) (cn (.str i)):=PE.imp xu fun σ H Q ⟨ρ,O,E,h⟩=>h H (Same.refl H) _ (Rep.str_ i)
&q_gint {x:Str}{i:Int}{u:Value}{pos:Pos}(hm:X.mg x=some u)(r:RelV (.int i) u)(hg:Gl X x:=by rfl)(hd:(x == ("__debug__" : Str))=false:=by decide):b9 X (.Name x pos) (cn (.int i)):=
 PE.imp (pU hg hm r hd) fun σ H Q ⟨ρ,O,E,h⟩=>h H (Same.refl H) _ (Rep.int_ i)
def ah (_:En):Rs (List T):=.ok []
def ac (f:En->Rs T)(g:En->Rs (List T))(ρ:En):Rs (List T):=do
 let t <-f ρ
 let r <-g ρ
 .ok (t::r)
&qa_nil:qE X [] ah:=PA.imp df fun σ H Q ⟨ρ,O,E,h⟩=>h H (Same.refl H) _ Reps.nil_
&qa_cons {e:Expr}{es:List Expr}{f:En->Rs T}{g:En->Rs (List T)}(he:b9 X e f)(hr:qE X es g)(hs:starEach (e::es) X.env=(false,eval e X.env)::starEach es X.env:=by rfl):qE X (e::es) (ac f g):=by
 intro pos pins s σ H Q I h
 &⟨ρ,O,E,h⟩:=h
 &bi he hr hs pos pins s σ H Q I ?_
 &⟨ρ1,O1,E1,h1⟩:=aU E h
 &⟨ρ1,O1,E1,Post.mono h1 fun t H' s q v r=> ?_⟩
 &⟨t',r',s',E',q'⟩:=q v r
 &⟨ρ,O,E',Post.mono q'.bind fun ts H2 s2 q2 vs rs=> ?_⟩
 #q2 H2 (Same.refl H2) _ (Reps.cons_ (r'.same s2) rs)
end
section
variable {X:Cx}
def jG (l:List T):Rs T:=if l.length<=sizeLine then .ok (.tup l)else .bad
def jH (l:List T):Rs T:=if l.length<=sizeLine then .ok (.lst l)else .bad
def aW (f:En->Rs (List T))(ρ:En):Rs T:=f ρ >>= jG
def b7 (f:En->Rs (List T))(ρ:En):Rs T:=f ρ >>= jH
&aS {H:Hp}{p:Addr}(h:H p=none)(o:HO):Same H (upd H p o):=fun b u q=>by rw [aF (bZ q h)];#q
&fY {K:PySem.W.Frag}{O:Ow}{H:Hp}{p:Addr}{l:List T}{vs:List V}(h:H p=none)(n:¬ O p)(r:Reps K O H l vs):Rep K O (upd H p (.tup vs)) (.tup l) (.ref p):=
 Rep.tup_iff.mpr ⟨p,vs,rfl,n,aG,r.same (aS h _)⟩
&iG {K:PySem.W.Frag}{O:Ow}{H:Hp}{p:Addr}{l:List T}{vs:List V}(h:H p=none)(n:¬ O p)(r:Reps K O H l vs):Rep K O (upd H p (.lst vs)) (.lst l) (.ref p):=
 Rep.lst_iff.mpr ⟨p,vs,rfl,n,aG,r.same (aS h _)⟩
&q_tup {es:List Expr}{x1:Nat}{pos:Pos}{f:En->Rs (List T)}(h:qE X es f):b9 X (.Tuple es x1 pos) (aW f):=by
 intro pins s σ H Q I ⟨ρ,O,E,hq⟩
 &pR h pins s σ H Q I ?_
 &⟨ρ1,O1,E1,h1⟩:=fS E hq
 &⟨ρ1,O1,E1,Post.mono h1 fun ts H1 s1 q vs r=> ?_⟩
 &⟨t',r',s',E',q'⟩:=q vs r
 unfold jG at q'
 split at q'
 ·rename_i hz
  &⟨by rw [<-r'.length];#hz,fun p hp=> ?_⟩
  #q' _ (aS hp _) _ (fY hp (E'.fresh hp) r')
 ·#q'.elim
&q_lst {es:List Expr}{pos:Pos}{f:En->Rs (List T)}(h:qE X es f):b9 X (.List es pos) (b7 f):=by
 intro pins s σ H Q I ⟨ρ,O,E,hq⟩
 &pT h pins s σ H Q I ?_
 &⟨ρ1,O1,E1,h1⟩:=fS E hq
 &⟨ρ1,O1,E1,Post.mono h1 fun ts H1 s1 q vs r=> ?_⟩
 &⟨t',r',s',E',q'⟩:=q vs r
 unfold jH at q'
 split at q'
 ·rename_i hz
  &⟨by rw [<-r'.length];#hz,fun p hp=> ?_⟩
  #q' _ (aS hp _) _ (iG hp (E'.fresh hp) r')
 ·#q'.elim
def OpT (X:Cx)(f:Value->Value->Sem Value)(g:T->T->Rs T):Prop:=
 ∀(pins:List (Addr×Obj)) (s:Shared) (σ:L2.St) (H:Hp) (O:Ow) (x y:T) (vx vy:V) (ux uy:Value) (Q:VK),Inv X pins σ H s->(∀p,H p=none->¬ O p)->Rep X.K O H x vx->Rep X.K O H y vy->RelV vx ux->RelV vy uy →
  Post X H (g x y) (fun t H'=> ∀v,Rep X.K O H' t v->Q v H')->wpAny (model X.prog X.w) X.A (f ux uy) (EP X pins σ Q) X.xe s
def o2 (g:T->T->Rs T)(fa fb:En->Rs T)(ρ:En):Rs T:=do
 let x <-fa ρ
 let y <-fb ρ
 g x y
variable {a b c:Expr}{fa fb fc:En->Rs T}{pos:Pos}
&q_bin {op:Operator}{g:T->T->Rs T}(ho:OpT X (binaryOp op) g)(ha:b9 X a fa)(hb:b9 X b fb):b9 X (.BinOp a op b pos) (o2 g fa fb):=by
 intro pins s σ H Q I ⟨ρ,O,E,hq⟩
 have h1:=aU E hq
 &wpAny_BinOp (bU (ha pins s σ H _ I h1) fun v s1 hh_=> ?_)
 &⟨x,H1,I1,r1,t,rt,s',E',q1⟩:=hh_
 have h2:=aU (f:=fb) E' q1
 &bU (hb pins s1 σ H1 _ I1 h2) fun u s2 hh_=> ?_
 &⟨y,H2,I2,r2,t2,rt2,s'',E'',q2⟩:=hh_
 #ho pins s2 σ H2 O t t2 x y v u Q I2 (fun p=>E''.fresh) (rt.same s'') rt2 r1 r2 q2
&q_cmp {op:CmpOp}{g:T->T->Rs T}(ho:OpT X (compareOp op) g)(ha:b9 X a fa)(hb:b9 X b fb)(hm:behindInMarks op b=false:=by rfl):b9 X (.Compare a [op] [b] pos) (o2 g fa fb):=by
 intro pins s σ H Q I ⟨ρ,O,E,hq⟩
 have h1:=aU E hq
 &wpAny_Compare1 (bU (ha pins s σ H _ I h1) fun v s1 ⟨x,H1,I1,r1,t,rt,s',E',q1⟩=> ?_) hm
 have h2:=aU (f:=fb) E' q1
 &bU (hb pins s1 σ H1 _ I1 h2) fun u s2 hh_=> ?_
 &⟨y,H2,I2,r2,t2,rt2,s'',E'',q2⟩:=hh_
 #ho pins s2 σ H2 O t t2 x y v u Q I2 (fun p=>E''.fresh) (rt.same s'') rt2 r1 r2 q2
&OpT.of {f:Value->Value->Sem Value}{r:R2}(h:nP X f r){g:T->T->Rs T}
  (w:∀ (H:Hp) (O:Ow) (x y:T) (vx vy:V) (Q:VK),(∀p,H p=none->¬ O p)->Rep X.K O H x vx->Rep X.K O H y vy->Post X H (g x y) (fun t H'=> ∀v,Rep X.K O H' t v->Q v H')->r vx vy H Q):OpT X f g:=
 fun pins s σ H O x y vx vy ux uy Q I hf rx ry r1 r2 hp=>h pins s σ H vx vy ux uy Q I r1 r2 (w H O x y vx vy Q hf rx ry hp)
def cQ:T->T->Rs T
 | .int i,.int j=> .ok (.int (i - j))
 | _,_=> .bad
&cM:OpT X (binaryOp .Sub) cQ:=OpT.of op_sub fun H O x y vx vy Q hf rx ry hp=>by
 unfold cQ at hp
 split at hp
 ·#⟨_,_,Rep.int_iff.mp rx,Rep.int_iff.mp ry,hp H (Same.refl H) _ (Rep.int_ _)⟩
 ·#hp.elim
def iV:T->T->Rs T
 | .int i,.int j=>if 0<j/\j<1073741824 then .ok (.int (i / j))else .bad
 | _,_=> .bad
def fh:T->T->Rs T
 | .int i,.int j=>if 0<j then .ok (.int (i % j))else .bad
 | _,_=> .bad
&jf:OpT X (binaryOp .FloorDiv) iV:=OpT.of op_fdiv fun H O x y vx vy Q hf rx ry hp=>by
 unfold iV at hp
 split at hp
 ·split at hp
  ·rename_i h
   #⟨_,_,Rep.int_iff.mp rx,Rep.int_iff.mp ry,h,hp H (Same.refl H) _ (Rep.int_ _)⟩
  ·#hp.elim
 ·#hp.elim
&fZ:OpT X (binaryOp .Mod) fh:=OpT.of op_mod fun H O x y vx vy Q hf rx ry hp=>by
 unfold fh at hp
 split at hp
 ·split at hp
  ·rename_i h
   #⟨_,_,Rep.int_iff.mp rx,Rep.int_iff.mp ry,h,hp H (Same.refl H) _ (Rep.int_ _)⟩
  ·#hp.elim
 ·#hp.elim
&xH:nP X (binaryOp .Add) (fun x y H Q=> ∃a b ys,x= .ref a/\y= .ref b/\SqT X.K H a []/\SqT X.K H b ys/\Q (.ref b) H):=by
 intro pins s σ H x y v u Q I rx ry h
 &⟨a,b,ys,rfl,rfl,ha,hb,q⟩:=h
 cases rx
 cases ry
 &⟨its,r1,p1,_⟩:=I.tuple ha
 &⟨its2,r2,p2,_⟩:=I.tuple hb
 &⟨⟨cls,dd,data,sl⟩,ho,hc,n,hd⟩:=id p1
 &⟨⟨cls2,dd2,data2,sl2⟩,ho2,hc2,n2,hd2⟩:=id p2
 simp only at hc hd hc2 hd2
 subst hc hd hc2 hd2
 have e:its= []:=by cases r1;rfl
 subst e
 #HT_concat0 ho ho2 ⟨.ref b,H,I,rfl,q⟩
where
 HT_concat0 {prog:Program} {w:World} {A:Around} {E:Value->Shared->Prop} {s:Shared} {t b:Addr} {ws:Array Value} {n n2:Nat} {dd dd2:Option Addr} {sl sl2:Array (Option Value)} {Q:Value->Shared->Prop}
   (ho:s.heap.get? t=some { cls:=.type "tuple",dict:=dd,data:=.seq (([]:List Value).toArray) n,slots:=sl }) (ho2:s.heap.get? b=some { cls:=.type "tuple",dict:=dd2,data:=.seq ws n2,slots:=sl2 }) (h:Q (.ref b) s) :
   wpAny (model prog w) A (binaryOp .Add (.ref t) (.ref b)) Q E s:=
  concat_meets ⟨_,ho,rfl⟩ ⟨_,ho2,rfl⟩ noFill_tuple_add seq_tuple_add PySem.F.slot_tuple_add PySem.F.entry_tuple_add (PySem.F.args_tuple_add_2 _ _)
   (tuple_addW0 t b _ _ n n2 dd dd2 sl sl2 (by simp)) ⟨ho,ho2,h⟩
def aH:T->T->Rs T
 | .int i,.int j=> .ok (.int (i+j))
 | .str i,.str j=>if i.length+j.length<=sizeLine then .ok (.str (i++j))else .bad
 | .tup l,.tup m=>jG (l++m)
 | .lst l,.lst m=>jH (l++m)
 | _,_=> .bad
&aI:OpT X (binaryOp .Add) aH:=by
 intro pins s σ H O x y vx vy ux uy Q I hf rx ry r1 r2 hp
 unfold aH at hp
 split at hp
 ·#op_add pins s σ H vx vy ux uy Q I r1 r2 ⟨_,_,Rep.int_iff.mp rx,Rep.int_iff.mp ry,hp H (Same.refl H) _ (Rep.int_ _)⟩
 ·split at hp
  ·rename_i h
   #sX pins s σ H vx vy ux uy Q I r1 r2 ⟨_,_,Rep.str_iff.mp rx,Rep.str_iff.mp ry,h,hp H (Same.refl H) _ (Rep.str_ _)⟩
  ·#hp.elim
 ·rename_i l m
  unfold jG at hp
  split at hp
  ·rename_i h
   &⟨a,vs,e1,n1,q1,z1⟩:=Rep.tup_iff.mp rx
   &⟨b,ws,e2,n2,q2,z2⟩:=Rep.tup_iff.mp ry
   have hl1:=z1.length
   have hl2:=z2.length
   rw [List.length_append]at h
   cases vs with
   | nil=>
    have e:l= []:=by cases l with
     | nil=>rfl
     | cons _ _=>simp at hl1
    subst e
    #xH pins s σ H vx vy ux uy Q I r1 r2 ⟨a,b,ws,e1,e2,SqT.of q1,SqT.of q2,hp H (Same.refl H) _ (Rep.tup_iff.mpr ⟨b,ws,rfl,n2,q2,z2⟩)⟩
   | cons v0 vr=>
    &op_catT pins s σ H vx vy ux uy Q I r1 r2 ⟨a,b,v0::vr,ws,e1,e2,SqT.of q1,SqT.of q2,by simp,by omega,fun hw=> ?_,fun _ p hpn=> ?_⟩
    ·subst hw
     have e:m= []:=by cases m with
      | nil=>rfl
      | cons _ _=>simp at hl2
     subst e
     rw [List.append_nil]at hp
     #hp H (Same.refl H) _ (Rep.tup_iff.mpr ⟨a,_,rfl,n1,q1,z1⟩)
    ·#hp _ (aS hpn _) _ (fY hpn (hf p hpn) (z1.append z2))
  ·#hp.elim
 ·rename_i l m
  unfold jH at hp
  split at hp
  ·rename_i h
   &⟨a,vs,e1,n1,q1,z1⟩:=Rep.lst_iff.mp rx
   &⟨b,ws,e2,n2,q2,z2⟩:=Rep.lst_iff.mp ry
   have hl1:=z1.length
   have hl2:=z2.length
   rw [List.length_append]at h
   #xI pins s σ H vx vy ux uy Q I r1 r2 ⟨a,b,vs,ws,e1,e2,q1,q2,by omega,fun p hpn=>hp _ (aS hpn _) _ (iG hpn (hf p hpn) (z1.append z2))⟩
  ·#hp.elim
 ·#hp.elim
def ti:T->T->Rs T
 | .int i,.int j=>if (-(2 ^ 64)<i/\i<2 ^ 64)\/(-(2 ^ 64)<j/\j<2 ^ 64)then .ok (.int (i*j))else .bad
 | .lst l,.int k=>if -(2 ^ 63)<=k/\k<2 ^ 63/\l.length*k.toNat<=sizeLine then .ok (.lst (List.replicate k.toNat l).flatten)else .bad
 | _,_=> .bad
&Reps.rep {K:PySem.W.Frag}{O:Ow}{H:Hp}{l:List T}{vs:List V}(h:Reps K O H l vs):∀ k:Nat,Reps K O H (List.replicate k l).flatten (List.replicate k vs).flatten
 | 0=>Reps.nil_
 | k+1=>by rw [List.replicate_succ,List.replicate_succ,List.flatten_cons,List.flatten_cons];#h.append (h.rep k)
&ot_mul:OpT X (binaryOp .Mult) ti:=by
 intro pins s σ H O x y vx vy ux uy Q I hf rx ry r1 r2 hp
 unfold ti at hp
 split at hp
 ·split at hp
  ·rename_i h
   #op_mul pins s σ H vx vy ux uy Q I r1 r2 ⟨_,_,Rep.int_iff.mp rx,Rep.int_iff.mp ry,h,hp H (Same.refl H) _ (Rep.int_ _)⟩
  ·#hp.elim
 ·split at hp
  ·rename_i l k h
   &⟨a,vs,e1,n1,q1,z1⟩:=Rep.lst_iff.mp rx
   have hl1:=z1.length
   #op_rep pins s σ H vx vy ux uy Q I r1 r2 ⟨a,k,vs,e1,Rep.int_iff.mp ry,q1,h.1,h.2.1,by rw [<-hl1];#h.2.2,fun p hpn=>hp _ (aS hpn _) _ (iG hpn (hf p hpn) (z1.rep _))⟩
  ·#hp.elim
 ·#hp.elim
def kO:T->Rs T
 | .int i=> .ok (.int (-i))
 | _=> .bad
def o1 (g:T->Rs T)(fa:En->Rs T)(ρ:En):Rs T:=fa ρ >>= g
&q_neg (ha:b9 X a fa):b9 X (.UnaryOp .USub a pos) (o1 kO fa):=by
 intro pins s σ H Q I ⟨ρ,O,E,hq⟩
 &pe_un wz ha pins s σ H Q I ?_
 &⟨ρ1,O1,E1,h1⟩:=aU E hq
 &⟨ρ1,O1,E1,Post.mono h1 fun ts H1 s1 q vs r=> ?_⟩
 &⟨t',r',s',E',q'⟩:=q vs r
 unfold kO at q'
 split at q'
 ·#⟨_,Rep.int_iff.mp r',q' H1 (Same.refl H1) _ (Rep.int_ _)⟩
 ·#q'.elim
def qx (p:Int->Int->Bool):T->T->Rs T
 | .int i,.int j=> .ok (.bl (p i j))
 | _,_=> .bad
&pX {op:CmpOp}{p:Int->Int->Bool}(h:nP X (compareOp op) (rI0 fun i j=> .bl (p i j))):OpT X (compareOp op) (qx p):=OpT.of h fun H O x y vx vy Q hf rx ry hp=>by
 unfold qx at hp
 split at hp
 ·#⟨_,_,Rep.int_iff.mp rx,Rep.int_iff.mp ry,hp H (Same.refl H) _ (Rep.bl_ _)⟩
 ·#hp.elim
abbrev mS:=qx fun i j=>decide (i<j)
abbrev leT:=qx fun i j=>decide (i<=j)
abbrev gtT:=qx fun i j=>decide (j<i)
&kh:OpT X (compareOp .Lt) mS:=pX op_lt
&mx:OpT X (compareOp .LtE) leT:=pX op_le
&ot_gt:OpT X (compareOp .Gt) gtT:=pX op_gt
def T.isN:T->Bool
 | .non=>true
 | _=>false
&Rep.isN {K:PySem.W.Frag}{O:Ow}{H:Hp}{t:T}{v:V}(r:Rep K O H t v):decide (v= .non)=t.isN:=by
 cases t with
 | non=>rw [Rep.non_iff.mp r];rfl
 | bl _=>rw [Rep.bl_iff.mp r];rfl
 | int _=>rw [Rep.int_iff.mp r];rfl
 | str _=>rw [Rep.str_iff.mp r];rfl
 | tup _=>&⟨a,vs,e,_⟩:=Rep.tup_iff.mp r;rw [e];rfl
 | lst _=>&⟨a,vs,e,_⟩:=Rep.lst_iff.mp r;rw [e];rfl
 | scr _=>unfold Rep at r;&⟨a,e,_⟩:=r;rw [e];rfl
 | dct _ _=>&⟨a,_,e,_⟩:=Rep.dct_iff.mp r;rw [e];rfl
def gf:T->T->Rs T
 | x,.non=> .ok (.bl x.isN)
 | _,_=> .bad
def eK:T->T->Rs T
 | x,.non=> .ok (.bl (!x.isN))
 | _,_=> .bad
&iI:OpT X (compareOp .Is) gf:=OpT.of op_isN fun H O x y vx vy Q hf rx ry hp=>by
 unfold gf at hp
 split at hp
 ·#⟨Rep.non_iff.mp ry,hp H (Same.refl H) _ (by rw [rx.isN];#Rep.bl_ _)⟩
 ·#hp.elim
&gO:OpT X (compareOp .IsNot) eK:=OpT.of op_notN fun H O x y vx vy Q hf rx ry hp=>by
 unfold eK at hp
 split at hp
 ·#⟨Rep.non_iff.mp ry,hp H (Same.refl H) _ (by rw [rx.isN];#Rep.bl_ _)⟩
 ·#hp.elim
end
end Tr
namespace Tr
open PySem PySem.Spec PyProof.Rows L2
open PySem.SeqAt
mutual
def ReV (s:Shared):T->Value->Prop
 | .non,u=>u= .none
 | .bl b,u=>u= .bool b
 | .int i,u=> ∃t,u= .int i t
 | .str x,u=> ∃t,u= .str x t
 | .tup l,u=> ∃a its,u= .ref a/\s.heap.IsTuple a (List.toArray its)/\ReVs s l its
 | .lst l,u=> ∃a its,u= .ref a/\s.heap.IsList a (List.toArray its)/\ReVs s l its
 | .scr l,u=> ∃a its,u= .ref a/\s.heap.IsList a (List.toArray its)/\IntsAre its l
 | .dct _ _,_=>False
def ReVs (s:Shared):List T->List Value->Prop
 | [],us=>us= []
 | t::r,us=> ∃u ws,us=u::ws/\ReV s t u/\ReVs s r ws
end
&ReVs.nil_iff {s:Shared}{us:List Value}:ReVs s [] us↔us= []:=by #,ReVs;#Iff.rfl
&ReVs.cons_iff {s:Shared}{t:T}{l:List T}{us:List Value}:ReVs s (t::l) us↔ ∃u ws,us=u::ws/\ReV s t u/\ReVs s l ws:=by
 constructor
 ·intro h;unfold ReVs at h;#h
 ·intro h;#,ReVs;#h
&ReVs.length {s:Shared}:∀ {l:List T} {us:List Value},ReVs s l us->l.length=us.length
 | [],us,r=>by rw [ReVs.nil_iff.mp r];rfl
 | t::l,us,r=>by
  &⟨v,ws,rfl,_,q⟩:=ReVs.cons_iff.mp r
  simp [q.length]
&ReVs.get {s:Shared}:∀ {l:List T} {us:List Value} {i:Nat} {t:T},ReVs s l us->l[i]? =some t->∃ v,us[i]? =some v/\ReV s t v
 | [],_,_,_,_,e=>by simp at e
 | t::l,vs,i,u,r,e=>by
  &⟨v,ws,rfl,p,q⟩:=ReVs.cons_iff.mp r
  cases i with
  | zero=>simp at e;subst e;#⟨v,rfl,p⟩
  | succ i=>
   &⟨z,e1,e2⟩:=q.get (i:=i) (t:=u) (by simpa using e)
   #⟨z,by simpa using e1,e2⟩
mutual
def T.nd:T->Bool
 | .dct _ _=>false
 | .tup l=>nds l
 | .lst l=>nds l
 | _=>true
def nds:List T->Bool
 | [] =>true
 | t::l=>t.nd&&nds l
end
&rM {t:T}{l:List T}(h:nds (t::l)=true):t.nd=true/\nds l=true:=by unfold nds at h;#Bool.and_eq_true_iff.mp h
&xQ:∀ {l:List T},(∀t∈l,t.nd=true)->nds l=true
 | [],_=>rfl
 | t::l,h=>by #,nds;rw [h t List.mem_cons_self,xQ fun u hu=>h u (List.mem_cons_of_mem _ hu)];rfl
section
variable {X:Cx}{pins:List (Addr×Obj)}{σ:L2.St}{H:Hp}{s:Shared}{O:Ow}
mutual
theorem Rep.val (I:Inv X pins σ H s):∀ {t:T} {v:V} {u:Value},t.nd=true->Rep X.K O H t v->RelV v u->ReV s t u
 | .non,v,u,hn,r,q=>by cases Rep.non_iff.mp r;#,ReV;#q
 | .bl b,v,u,hn,r,q=>by cases Rep.bl_iff.mp r;#,ReV;#q
 | .int b,v,u,hn,r,q=>by cases Rep.int_iff.mp r;#,ReV;#q
 | .str b,v,u,hn,r,q=>by cases Rep.str_iff.mp r;#,ReV;#q
 | .tup l,v,u,hn,r,q=>by
  &⟨a,vs,rfl,_,z,w⟩:=Rep.tup_iff.mp r
  cases q
  &⟨its,rv,p,_⟩:=I.tuple (SqT.of z)
  #,ReV
  #⟨a,its,rfl,p,Reps.val I (by unfold T.nd at hn;#hn) w rv⟩
 | .lst l,v,u,hn,r,q=>by
  &⟨a,vs,rfl,_,z,w⟩:=Rep.lst_iff.mp r
  cases q
  &⟨its,rv,p,_⟩:=I.list (SqL.of z)
  #,ReV
  #⟨a,its,rfl,p.isList,Reps.val I (by unfold T.nd at hn;#hn) w rv⟩
 | .scr l,v,u,hn,r,q=>by
  unfold Rep at r
  &⟨a,rfl,_,z⟩:=r
  cases q
  &⟨its,rv,p,_⟩:=I.list z
  #,ReV
  #⟨a,its,rfl,p.isList,tI rv⟩
 | .dct _ _,v,u,hn,r,q=>by cases hn
theorem Reps.val (I:Inv X pins σ H s):∀ {l:List T} {vs:List V} {us:List Value},nds l=true->Reps X.K O H l vs->Vals vs us->ReVs s l us
 | [],vs,us,hn,r,q=>by
  cases Reps.nil_iff.mp r
  cases q
  #ReVs.nil_iff.mpr rfl
 | t::l,vs,us,hn,r,q=>by
  &⟨v,ws,rfl,p,z⟩:=Reps.cons_iff.mp r
  cases q with
  | cons q1 q2=>#ReVs.cons_iff.mpr ⟨_,_,rfl,Rep.val I (rM hn).1 p q1,Reps.val I (rM hn).2 z q2⟩
end
end
mutual
def T.dep:T->Nat
 | .tup l=>deps l+1
 | .lst l=>deps l+1
 | .scr _=>1
 | _=>0
def deps:List T->Nat
 | [] =>0
 | t::l=>max t.dep (deps l)
end
def beqI (i:Int):T->Bool
 | .int j=>i == j
 | .bl b=>i == (if b then 1 else 0)
 | _=>false
def jJ:List Int->List T->Bool
 | [],[] =>true
 | i::r,t::l=>beqI i t&&jJ r l
 | _,_=>false
mutual
def aZ:T->T->Bool
 | .non,.non=>true
 | .bl a,.bl b=>a == b
 | .bl a,.int b=>(if a then 1 else 0) == b
 | .int a,.bl b=>a == (if b then 1 else 0)
 | .int a,.int b=>a == b
 | .str a,.str b=>a == b
 | .tup l,.tup m=>beqTs l m
 | .lst l,.lst m=>beqTs l m
 | .lst l,.scr m=>beqTs l (m.map .int)
 | .scr l,.lst m=>jJ l m
 | .scr l,.scr m=>l == m
 | _,_=>false
def beqTs:List T->List T->Bool
 | [],[] =>true
 | t::l,u::m=>aZ t u&&beqTs l m
 | _,_=>false
end
&nM (n:Nat)(e:Nat->Bool):(List.range (n+1)).all e=(e 0&&(List.range n).all fun j=>e (j+1)):=by
 rw [List.range_succ_eq_map,List.all_cons,List.all_map];rfl
&kZ:∀ (l m:List T) (e:Nat->Bool),(∀(j:Nat) t u,l[j]? =some t->m[j]? =some u->e j=aZ t u) →
  beqTs l m=((List.range (min l.length m.length)).all e&&l.length == m.length)
 | [],[],_,_=>by simp [beqTs]
 | [],_::_,_,_=>by simp [beqTs]
 | _::_,[],_,_=>by simp [beqTs]
 | t::l,u::m,e,h=>by
  have ih:=kZ l m (fun j=>e (j+1)) fun j t' u' h1 h2=>h (j+1) t' u' (by simpa using h1) (by simpa using h2)
  rw [beqTs,ih]
  have h0:=h 0 t u rfl rfl
  simp only [List.length_cons]
  rw [Nat.succ_min_succ,nM,h0,Bool.and_assoc]
  congr 2
  simp
&o8:∀ {l m:List T},l.length≠m.length->beqTs l m=false
 | [],[],h=>absurd rfl h
 | [],_::_,_=>by simp [beqTs]
 | _::_,[],_=>by simp [beqTs]
 | t::l,u::m,h=>by
  rw [beqTs,o8 (l:=l) (m:=m) (by intro z;#h (by simp [z]))]
  simp
&iZ:∀ {l:List T} {i:Nat} {t:T},l[i]? =some t->t.dep<=deps l
 | [],_,_,e=>by simp at e
 | t::l,0,u,e=>by simp at e;subst e;#,deps;#Nat.le_max_left _ _
 | t::l,i+1,u,e=>by
  have:=iZ (l:=l) (i:=i) (t:=u) (by simpa using e)
  #,deps
  #Nat.le_trans this (Nat.le_max_right _ _)
&iP {s:Shared}{a:Addr}{x y:List Value}(h:s.heap.IsTuple a x.toArray)(h':s.heap.IsTuple a y.toArray):x=y:=by
 &⟨o,e,_,n,d⟩:=h
 &⟨o',e',_,n',d'⟩:=h'
 rw [e]at e';cases e'
 rw [d]at d'
 injection d' with d1 _
 simpa using congrArg Array.toList d1
&cN {s:Shared}{a:Addr}{x y:List Value}(h:s.heap.IsList a x.toArray)(h':s.heap.IsList a y.toArray):x=y:=by
 &⟨o,e,_,n,d⟩:=h
 &⟨o',e',_,n',d'⟩:=h'
 rw [e]at e';cases e'
 rw [d]at d'
 injection d' with d1 _
 simpa using congrArg Array.toList d1
&we {s:Shared}{i:Int}{t:T}{k:Tok}(r:ReV s t (.int i k)):beqI i t=true:=by
 cases t with
 | non=>unfold ReV at r;cases r
 | bl b=>unfold ReV at r;cases r
 | int j=>unfold ReV at r;&⟨t,e⟩:=r;injection e with e1 _;subst e1;simp [beqI]
 | str x=>unfold ReV at r;&⟨t,e⟩:=r;cases e
 | tup l=>unfold ReV at r;&⟨a,its,e,_⟩:=r;cases e
 | lst l=>unfold ReV at r;&⟨a,its,e,_⟩:=r;cases e
 | scr l=>unfold ReV at r;&⟨a,its,e,_⟩:=r;cases e
 | dct _ _=>unfold ReV at r;#r.elim
&nK {s:Shared}:∀ {ns:List Int} {us:List Value} {l:List T},IntsAre us ns->ReVs s l us->jJ ns l=true
 | [],us,l,h,r=>by
  cases h
  cases l with
  | nil=>rfl
  | cons t l=>&⟨_,_,e,_⟩:=ReVs.cons_iff.mp r;cases e
 | n::ns,us,l,h,r=>by
  cases h with
  | cons a b hh=>
   cases l with
   | nil=>have:=ReVs.nil_iff.mp r;cases this
   | cons t l=>
    &⟨u,ws,e,p,q⟩:=ReVs.cons_iff.mp r
    injection e with e1 e2
    subst e1 e2
    rw [jJ,we p,nK hh q];rfl
&dR {s:Shared}:∀ {us:List Value} {ns:List Int},IntsAre us ns->ReVs s (ns.map T.int) us
 | _,_,.nil=>ReVs.nil_iff.mpr rfl
 | _,_,.cons n t h=>ReVs.cons_iff.mpr ⟨_,_,rfl,by #,ReV;#⟨_,rfl⟩,dR h⟩
&iQ:∀ {us:List Value} {ns ms:List Int},IntsAre us ns->IntsAre us ms->ns=ms
 | _,_,_,.nil,.nil=>rfl
 | _,_,_,.cons n t h,.cons _ _ h'=>by rw [iQ h h']
mutual
theorem ReV.refl {s:Shared}:∀ {t u:T} {v:Value},ReV s t v->ReV s u v->aZ t u=true
 | .non,u,v,r,q=>by
  unfold ReV at r;subst r
  cases u <;> (unfold ReV at q) <;> first | rfl | (cases q;done) | (&⟨_,e⟩:=q;cases e;done) | (&⟨_,_,e,_⟩:=q;cases e;done)
 | .bl b,u,v,r,q=>by
  unfold ReV at r;subst r
  cases u <;> (unfold ReV at q) <;> first | (cases q;done) | (cases q;simp [aZ];done) | (&⟨_,e⟩:=q;cases e;done) | (&⟨_,_,e,_⟩:=q;cases e;done)
 | .int b,u,v,r,q=>by
  unfold ReV at r;&⟨k,rfl⟩:=r
  cases u <;> (unfold ReV at q) <;> first | (cases q;done) | (&⟨_,e⟩:=q;cases e;simp [aZ];done) | (&⟨_,e⟩:=q;cases e;done) | (&⟨_,_,e,_⟩:=q;cases e;done)
 | .str b,u,v,r,q=>by
  unfold ReV at r;&⟨k,rfl⟩:=r
  cases u <;> (unfold ReV at q) <;> first | (cases q;done) | (&⟨_,e⟩:=q;cases e;simp [aZ];done) | (&⟨_,e⟩:=q;cases e;done) | (&⟨_,_,e,_⟩:=q;cases e;done)
 | .tup l,u,v,r,q=>by
  unfold ReV at r;&⟨a,its,rfl,h1,h2⟩:=r
  cases u with
  | non=>unfold ReV at q;cases q
  | dct _ _=>unfold ReV at q;#q.elim
  | bl _=>unfold ReV at q;cases q
  | int _=>unfold ReV at q;&⟨_,e⟩:=q;cases e
  | str _=>unfold ReV at q;&⟨_,e⟩:=q;cases e
  | tup m=>
   unfold ReV at q;&⟨a',its',e,h1',h2'⟩:=q
   injection e with e;subst e
   have:=iP h1 h1';subst this
   #,aZ
   #ReVs.refl h2 h2'
  | lst m=>unfold ReV at q;&⟨a',its',e,h1',h2'⟩:=q;injection e with e;subst e;#absurd rfl (ne_of_list_tuple h1' h1)
  | scr m=>unfold ReV at q;&⟨a',its',e,h1',h2'⟩:=q;injection e with e;subst e;#absurd rfl (ne_of_list_tuple h1' h1)
 | .lst l,u,v,r,q=>by
  unfold ReV at r;&⟨a,its,rfl,h1,h2⟩:=r
  cases u with
  | non=>unfold ReV at q;cases q
  | dct _ _=>unfold ReV at q;#q.elim
  | bl _=>unfold ReV at q;cases q
  | int _=>unfold ReV at q;&⟨_,e⟩:=q;cases e
  | str _=>unfold ReV at q;&⟨_,e⟩:=q;cases e
  | lst m=>
   unfold ReV at q;&⟨a',its',e,h1',h2'⟩:=q
   injection e with e;subst e
   have:=cN h1 h1';subst this
   #,aZ
   #ReVs.refl h2 h2'
  | tup m=>unfold ReV at q;&⟨a',its',e,h1',h2'⟩:=q;injection e with e;subst e;#absurd rfl (ne_of_list_tuple h1 h1')
  | scr m=>
   unfold ReV at q;&⟨a',its',e,h1',h2'⟩:=q
   injection e with e;subst e
   have:=cN h1 h1';subst this
   #,aZ
   #ReVs.refl h2 (dR h2')
 | .scr l,u,v,r,q=>by
  unfold ReV at r;&⟨a,its,rfl,h1,h2⟩:=r
  cases u with
  | non=>unfold ReV at q;cases q
  | dct _ _=>unfold ReV at q;#q.elim
  | bl _=>unfold ReV at q;cases q
  | int _=>unfold ReV at q;&⟨_,e⟩:=q;cases e
  | str _=>unfold ReV at q;&⟨_,e⟩:=q;cases e
  | lst m=>
   unfold ReV at q;&⟨a',its',e,h1',h2'⟩:=q
   injection e with e;subst e
   have:=cN h1 h1';subst this
   #,aZ
   #nK h2 h2'
  | tup m=>unfold ReV at q;&⟨a',its',e,h1',h2'⟩:=q;injection e with e;subst e;#absurd rfl (ne_of_list_tuple h1 h1')
  | scr m=>
   unfold ReV at q;&⟨a',its',e,h1',h2'⟩:=q
   injection e with e;subst e
   have:=cN h1 h1';subst this
   #,aZ
   have:=iQ h2 h2'
   simp [this]
 | .dct _ _,u,v,r,q=>by unfold ReV at r;#r.elim
theorem ReVs.refl {s:Shared}:∀ {l m:List T} {us:List Value},ReVs s l us->ReVs s m us->beqTs l m=true
 | [],m,us,r,q=>by
  cases ReVs.nil_iff.mp r
  cases m with
  | nil=>simp [beqTs]
  | cons _ _=>&⟨_,_,e,_⟩:=ReVs.cons_iff.mp q;cases e
 | t::l,m,us,r,q=>by
  &⟨v,ws,rfl,p,z⟩:=ReVs.cons_iff.mp r
  cases m with
  | nil=>cases ReVs.nil_iff.mp q
  | cons u m=>
   &⟨v',ws',e,p',z'⟩:=ReVs.cons_iff.mp q
   injection e with e1 e2
   subst e1 e2
   rw [beqTs,ReV.refl p p',ReVs.refl z z'];rfl
end
&nJ:∀ (l:List Int) (m:List T),jJ l m=beqTs (l.map T.int) m
 | [],[] =>by simp [jJ,beqTs]
 | [],_::_=>by simp [jJ,beqTs]
 | _::_,[] =>by simp [jJ,beqTs]
 | i::l,t::m=>by
  rw [jJ,List.map_cons,beqTs,nJ l m]
  congr 1
  cases t <;> simp [beqI,aZ]
&pA:∀ (l m:List Int),(l == m)=beqTs (l.map T.int) (m.map T.int)
 | [],[] =>by simp [beqTs]
 | [],_::_=>by simp [beqTs]
 | _::_,[] =>by simp [beqTs]
 | i::l,t::m=>by
  rw [List.map_cons,List.map_cons,beqTs,<-pA l m]
  simp [aZ]
&fO:∀ (l:List Int),deps (l.map T.int)=0
 | [] =>rfl
 | i::l=>by rw [List.map_cons,deps,fO l];simp [T.dep]
def jg:T->T->Prop
 | .tup _,.tup _=>False
 | .lst _,.lst _=>False
 | .lst _,.scr _=>False
 | .scr _,.lst _=>False
 | .scr _,.scr _=>False
 | _,_=>True
&r6 (A:Around)(s:Shared)(x y:T)(u v:Value)(hn:jg x y)(hu:A.units<cLine)(rx:ReV s x u)(ry:ReV s y v):EqAt A s u v (aZ x y)/\RcAt A s u v (aZ x y)/\RcNeAt A s u v (!aZ x y):=by
 match x,y,hn,rx,ry with
 | .dct _ _,_,_,rx,_=>#(by unfold ReV at rx;#rx:False).elim
 | _,.dct _ _,_,_,ry=>#(by unfold ReV at ry;#ry:False).elim
 | .non,.non,hn,rx,ry=>
  obtain rfl:u=Value.none:=by unfold ReV at rx;#rx
  obtain rfl:v=Value.none:=by unfold ReV at ry;#ry
  #⟨EqAt.same _,RcAt.none_none ,RcNeAt.none_none ⟩
 | .non,.bl b2,hn,rx,ry=>
  obtain rfl:u=Value.none:=by unfold ReV at rx;#rx
  obtain rfl:v=Value.bool b2:=by unfold ReV at ry;#ry
  #⟨EqAt.none_bool b2,RcAt.none_bool b2,RcNeAt.none_bool b2⟩
 | .non,.int i2,hn,rx,ry=>
  obtain rfl:u=Value.none:=by unfold ReV at rx;#rx
  obtain⟨k2,rfl⟩:∃ k,v=Value.int i2 k:=by unfold ReV at ry;#ry
  #⟨EqAt.none_int i2 k2,RcAt.none_int i2 k2,RcNeAt.none_int i2 k2⟩
 | .non,.str x2,hn,rx,ry=>
  obtain rfl:u=Value.none:=by unfold ReV at rx;#rx
  obtain⟨k2,rfl⟩:∃ k,v=Value.str x2 k:=by unfold ReV at ry;#ry
  #⟨EqAt.none_str x2 k2,RcAt.none_str x2 k2,RcNeAt.none_str x2 k2⟩
 | .non,.tup l2,hn,rx,ry=>
  obtain rfl:u=Value.none:=by unfold ReV at rx;#rx
  unfold ReV at ry;&⟨a2,us2,rfl,h2,q2⟩:=ry
  #⟨EqAt.none_tuple h2 hu,RcAt.none_tuple h2 hu,RcNeAt.none_tuple h2 hu⟩
 | .non,.lst l2,hn,rx,ry=>
  obtain rfl:u=Value.none:=by unfold ReV at rx;#rx
  unfold ReV at ry;&⟨a2,us2,rfl,h2,q2⟩:=ry
  #⟨EqAt.none_list h2 hu,RcAt.none_list h2 hu,RcNeAt.none_list h2 hu⟩
 | .non,.scr l2,hn,rx,ry=>
  obtain rfl:u=Value.none:=by unfold ReV at rx;#rx
  unfold ReV at ry;&⟨a2,us2,rfl,h2,q2⟩:=ry
  #⟨EqAt.none_list h2 hu,RcAt.none_list h2 hu,RcNeAt.none_list h2 hu⟩
 | .bl b1,.non,hn,rx,ry=>
  obtain rfl:u=Value.bool b1:=by unfold ReV at rx;#rx
  obtain rfl:v=Value.none:=by unfold ReV at ry;#ry
  #⟨EqAt.bool_none b1,RcAt.bool_none b1,RcNeAt.bool_none b1⟩
 | .bl b1,.bl b2,hn,rx,ry=>
  obtain rfl:u=Value.bool b1:=by unfold ReV at rx;#rx
  obtain rfl:v=Value.bool b2:=by unfold ReV at ry;#ry
  #⟨EqAt.bool_bool b1 b2,RcAt.bool_bool b1 b2,RcNeAt.bool_bool b1 b2⟩
 | .bl b1,.int i2,hn,rx,ry=>
  obtain rfl:u=Value.bool b1:=by unfold ReV at rx;#rx
  obtain⟨k2,rfl⟩:∃ k,v=Value.int i2 k:=by unfold ReV at ry;#ry
  #⟨EqAt.bool_int b1 i2 k2,RcAt.bool_int b1 i2 k2,RcNeAt.bool_int b1 i2 k2⟩
 | .bl b1,.str x2,hn,rx,ry=>
  obtain rfl:u=Value.bool b1:=by unfold ReV at rx;#rx
  obtain⟨k2,rfl⟩:∃ k,v=Value.str x2 k:=by unfold ReV at ry;#ry
  #⟨EqAt.bool_str b1 x2 k2,RcAt.bool_str b1 x2 k2,RcNeAt.bool_str b1 x2 k2⟩
 | .bl b1,.tup l2,hn,rx,ry=>
  obtain rfl:u=Value.bool b1:=by unfold ReV at rx;#rx
  unfold ReV at ry;&⟨a2,us2,rfl,h2,q2⟩:=ry
  #⟨EqAt.bool_tuple b1 h2 hu,RcAt.bool_tuple b1 h2 hu,RcNeAt.bool_tuple b1 h2 hu⟩
 | .bl b1,.lst l2,hn,rx,ry=>
  obtain rfl:u=Value.bool b1:=by unfold ReV at rx;#rx
  unfold ReV at ry;&⟨a2,us2,rfl,h2,q2⟩:=ry
  #⟨EqAt.bool_list b1 h2 hu,RcAt.bool_list b1 h2 hu,RcNeAt.bool_list b1 h2 hu⟩
 | .bl b1,.scr l2,hn,rx,ry=>
  obtain rfl:u=Value.bool b1:=by unfold ReV at rx;#rx
  unfold ReV at ry;&⟨a2,us2,rfl,h2,q2⟩:=ry
  #⟨EqAt.bool_list b1 h2 hu,RcAt.bool_list b1 h2 hu,RcNeAt.bool_list b1 h2 hu⟩
 | .int i1,.non,hn,rx,ry=>
  obtain⟨k1,rfl⟩:∃ k,u=Value.int i1 k:=by unfold ReV at rx;#rx
  obtain rfl:v=Value.none:=by unfold ReV at ry;#ry
  #⟨EqAt.int_none i1 k1,RcAt.int_none i1 k1,RcNeAt.int_none i1 k1⟩
 | .int i1,.bl b2,hn,rx,ry=>
  obtain⟨k1,rfl⟩:∃ k,u=Value.int i1 k:=by unfold ReV at rx;#rx
  obtain rfl:v=Value.bool b2:=by unfold ReV at ry;#ry
  #⟨EqAt.int_bool i1 k1 b2,RcAt.int_bool i1 k1 b2,RcNeAt.int_bool i1 k1 b2⟩
 | .int i1,.int i2,hn,rx,ry=>
  obtain⟨k1,rfl⟩:∃ k,u=Value.int i1 k:=by unfold ReV at rx;#rx
  obtain⟨k2,rfl⟩:∃ k,v=Value.int i2 k:=by unfold ReV at ry;#ry
  #⟨EqAt.int_int i1 k1 i2 k2,RcAt.int_int i1 k1 i2 k2,RcNeAt.int_int i1 k1 i2 k2⟩
 | .int i1,.str x2,hn,rx,ry=>
  obtain⟨k1,rfl⟩:∃ k,u=Value.int i1 k:=by unfold ReV at rx;#rx
  obtain⟨k2,rfl⟩:∃ k,v=Value.str x2 k:=by unfold ReV at ry;#ry
  #⟨EqAt.int_str i1 k1 x2 k2,RcAt.int_str i1 k1 x2 k2,RcNeAt.int_str i1 k1 x2 k2⟩
 | .int i1,.tup l2,hn,rx,ry=>
  obtain⟨k1,rfl⟩:∃ k,u=Value.int i1 k:=by unfold ReV at rx;#rx
  unfold ReV at ry;&⟨a2,us2,rfl,h2,q2⟩:=ry
  #⟨EqAt.int_tuple i1 k1 h2 hu,RcAt.int_tuple i1 k1 h2 hu,RcNeAt.int_tuple i1 k1 h2 hu⟩
 | .int i1,.lst l2,hn,rx,ry=>
  obtain⟨k1,rfl⟩:∃ k,u=Value.int i1 k:=by unfold ReV at rx;#rx
  unfold ReV at ry;&⟨a2,us2,rfl,h2,q2⟩:=ry
  #⟨EqAt.int_list i1 k1 h2 hu,RcAt.int_list i1 k1 h2 hu,RcNeAt.int_list i1 k1 h2 hu⟩
 | .int i1,.scr l2,hn,rx,ry=>
  obtain⟨k1,rfl⟩:∃ k,u=Value.int i1 k:=by unfold ReV at rx;#rx
  unfold ReV at ry;&⟨a2,us2,rfl,h2,q2⟩:=ry
  #⟨EqAt.int_list i1 k1 h2 hu,RcAt.int_list i1 k1 h2 hu,RcNeAt.int_list i1 k1 h2 hu⟩
 | .str x1,.non,hn,rx,ry=>
  obtain⟨k1,rfl⟩:∃ k,u=Value.str x1 k:=by unfold ReV at rx;#rx
  obtain rfl:v=Value.none:=by unfold ReV at ry;#ry
  #⟨EqAt.str_none x1 k1,RcAt.str_none x1 k1,RcNeAt.str_none x1 k1⟩
 | .str x1,.bl b2,hn,rx,ry=>
  obtain⟨k1,rfl⟩:∃ k,u=Value.str x1 k:=by unfold ReV at rx;#rx
  obtain rfl:v=Value.bool b2:=by unfold ReV at ry;#ry
  #⟨EqAt.str_bool x1 k1 b2,RcAt.str_bool x1 k1 b2,RcNeAt.str_bool x1 k1 b2⟩
 | .str x1,.int i2,hn,rx,ry=>
  obtain⟨k1,rfl⟩:∃ k,u=Value.str x1 k:=by unfold ReV at rx;#rx
  obtain⟨k2,rfl⟩:∃ k,v=Value.int i2 k:=by unfold ReV at ry;#ry
  #⟨EqAt.str_int x1 k1 i2 k2,RcAt.str_int x1 k1 i2 k2,RcNeAt.str_int x1 k1 i2 k2⟩
 | .str x1,.str x2,hn,rx,ry=>
  obtain⟨k1,rfl⟩:∃ k,u=Value.str x1 k:=by unfold ReV at rx;#rx
  obtain⟨k2,rfl⟩:∃ k,v=Value.str x2 k:=by unfold ReV at ry;#ry
  #⟨EqAt.str_str x1 k1 x2 k2,RcAt.str_str x1 k1 x2 k2,RcNeAt.str_str x1 k1 x2 k2⟩
 | .str x1,.tup l2,hn,rx,ry=>
  obtain⟨k1,rfl⟩:∃ k,u=Value.str x1 k:=by unfold ReV at rx;#rx
  unfold ReV at ry;&⟨a2,us2,rfl,h2,q2⟩:=ry
  #⟨EqAt.str_tuple x1 k1 h2 hu,RcAt.str_tuple x1 k1 h2 hu,RcNeAt.str_tuple x1 k1 h2 hu⟩
 | .str x1,.lst l2,hn,rx,ry=>
  obtain⟨k1,rfl⟩:∃ k,u=Value.str x1 k:=by unfold ReV at rx;#rx
  unfold ReV at ry;&⟨a2,us2,rfl,h2,q2⟩:=ry
  #⟨EqAt.str_list x1 k1 h2 hu,RcAt.str_list x1 k1 h2 hu,RcNeAt.str_list x1 k1 h2 hu⟩
 | .str x1,.scr l2,hn,rx,ry=>
  obtain⟨k1,rfl⟩:∃ k,u=Value.str x1 k:=by unfold ReV at rx;#rx
  unfold ReV at ry;&⟨a2,us2,rfl,h2,q2⟩:=ry
  #⟨EqAt.str_list x1 k1 h2 hu,RcAt.str_list x1 k1 h2 hu,RcNeAt.str_list x1 k1 h2 hu⟩
 | .tup l1,.non,hn,rx,ry=>
  unfold ReV at rx;&⟨a1,us1,rfl,h1,q1⟩:=rx
  obtain rfl:v=Value.none:=by unfold ReV at ry;#ry
  #⟨EqAt.tuple_none h1 hu,RcAt.tuple_none h1 hu,RcNeAt.tuple_none h1 hu⟩
 | .tup l1,.bl b2,hn,rx,ry=>
  unfold ReV at rx;&⟨a1,us1,rfl,h1,q1⟩:=rx
  obtain rfl:v=Value.bool b2:=by unfold ReV at ry;#ry
  #⟨EqAt.tuple_bool b2 h1 hu,RcAt.tuple_bool b2 h1 hu,RcNeAt.tuple_bool b2 h1 hu⟩
 | .tup l1,.int i2,hn,rx,ry=>
  unfold ReV at rx;&⟨a1,us1,rfl,h1,q1⟩:=rx
  obtain⟨k2,rfl⟩:∃ k,v=Value.int i2 k:=by unfold ReV at ry;#ry
  #⟨EqAt.tuple_int i2 k2 h1 hu,RcAt.tuple_int i2 k2 h1 hu,RcNeAt.tuple_int i2 k2 h1 hu⟩
 | .tup l1,.str x2,hn,rx,ry=>
  unfold ReV at rx;&⟨a1,us1,rfl,h1,q1⟩:=rx
  obtain⟨k2,rfl⟩:∃ k,v=Value.str x2 k:=by unfold ReV at ry;#ry
  #⟨EqAt.tuple_str x2 k2 h1 hu,RcAt.tuple_str x2 k2 h1 hu,RcNeAt.tuple_str x2 k2 h1 hu⟩
 | .tup _,.tup _,hn,_,_=>#hn.elim
 | .tup l1,.lst l2,hn,rx,ry=>
  unfold ReV at rx;&⟨a1,us1,rfl,h1,q1⟩:=rx
  unfold ReV at ry;&⟨a2,us2,rfl,h2,q2⟩:=ry
  #⟨EqAt.tuple_list h1 h2 hu,RcAt.tuple_list h1 h2 hu,RcNeAt.tuple_list h1 h2 hu⟩
 | .tup l1,.scr l2,hn,rx,ry=>
  unfold ReV at rx;&⟨a1,us1,rfl,h1,q1⟩:=rx
  unfold ReV at ry;&⟨a2,us2,rfl,h2,q2⟩:=ry
  #⟨EqAt.tuple_list h1 h2 hu,RcAt.tuple_list h1 h2 hu,RcNeAt.tuple_list h1 h2 hu⟩
 | .lst l1,.non,hn,rx,ry=>
  unfold ReV at rx;&⟨a1,us1,rfl,h1,q1⟩:=rx
  obtain rfl:v=Value.none:=by unfold ReV at ry;#ry
  #⟨EqAt.list_none h1 hu,RcAt.list_none h1 hu,RcNeAt.list_none h1 hu⟩
 | .lst l1,.bl b2,hn,rx,ry=>
  unfold ReV at rx;&⟨a1,us1,rfl,h1,q1⟩:=rx
  obtain rfl:v=Value.bool b2:=by unfold ReV at ry;#ry
  #⟨EqAt.list_bool b2 h1 hu,RcAt.list_bool b2 h1 hu,RcNeAt.list_bool b2 h1 hu⟩
 | .lst l1,.int i2,hn,rx,ry=>
  unfold ReV at rx;&⟨a1,us1,rfl,h1,q1⟩:=rx
  obtain⟨k2,rfl⟩:∃ k,v=Value.int i2 k:=by unfold ReV at ry;#ry
  #⟨EqAt.list_int i2 k2 h1 hu,RcAt.list_int i2 k2 h1 hu,RcNeAt.list_int i2 k2 h1 hu⟩
 | .lst l1,.str x2,hn,rx,ry=>
  unfold ReV at rx;&⟨a1,us1,rfl,h1,q1⟩:=rx
  obtain⟨k2,rfl⟩:∃ k,v=Value.str x2 k:=by unfold ReV at ry;#ry
  #⟨EqAt.list_str x2 k2 h1 hu,RcAt.list_str x2 k2 h1 hu,RcNeAt.list_str x2 k2 h1 hu⟩
 | .lst l1,.tup l2,hn,rx,ry=>
  unfold ReV at rx;&⟨a1,us1,rfl,h1,q1⟩:=rx
  unfold ReV at ry;&⟨a2,us2,rfl,h2,q2⟩:=ry
  #⟨EqAt.list_tuple h1 h2 hu,RcAt.list_tuple h1 h2 hu,RcNeAt.list_tuple h1 h2 hu⟩
 | .lst _,.lst _,hn,_,_=>#hn.elim
 | .lst _,.scr _,hn,_,_=>#hn.elim
 | .scr l1,.non,hn,rx,ry=>
  unfold ReV at rx;&⟨a1,us1,rfl,h1,q1⟩:=rx
  obtain rfl:v=Value.none:=by unfold ReV at ry;#ry
  #⟨EqAt.list_none h1 hu,RcAt.list_none h1 hu,RcNeAt.list_none h1 hu⟩
 | .scr l1,.bl b2,hn,rx,ry=>
  unfold ReV at rx;&⟨a1,us1,rfl,h1,q1⟩:=rx
  obtain rfl:v=Value.bool b2:=by unfold ReV at ry;#ry
  #⟨EqAt.list_bool b2 h1 hu,RcAt.list_bool b2 h1 hu,RcNeAt.list_bool b2 h1 hu⟩
 | .scr l1,.int i2,hn,rx,ry=>
  unfold ReV at rx;&⟨a1,us1,rfl,h1,q1⟩:=rx
  obtain⟨k2,rfl⟩:∃ k,v=Value.int i2 k:=by unfold ReV at ry;#ry
  #⟨EqAt.list_int i2 k2 h1 hu,RcAt.list_int i2 k2 h1 hu,RcNeAt.list_int i2 k2 h1 hu⟩
 | .scr l1,.str x2,hn,rx,ry=>
  unfold ReV at rx;&⟨a1,us1,rfl,h1,q1⟩:=rx
  obtain⟨k2,rfl⟩:∃ k,v=Value.str x2 k:=by unfold ReV at ry;#ry
  #⟨EqAt.list_str x2 k2 h1 hu,RcAt.list_str x2 k2 h1 hu,RcNeAt.list_str x2 k2 h1 hu⟩
 | .scr l1,.tup l2,hn,rx,ry=>
  unfold ReV at rx;&⟨a1,us1,rfl,h1,q1⟩:=rx
  unfold ReV at ry;&⟨a2,us2,rfl,h2,q2⟩:=ry
  #⟨EqAt.list_tuple h1 h2 hu,RcAt.list_tuple h1 h2 hu,RcNeAt.list_tuple h1 h2 hu⟩
 | .scr _,.lst _,hn,_,_=>#hn.elim
 | .scr _,.scr _,hn,_,_=>#hn.elim
&eq_T:∀ (n:Nat) (A:Around) (s:Shared) (x y:T) (u v:Value),(x.dep<=n\/y.dep<=n)->A.units+n<cLine->ReV s x u->ReV s y v->EqAt A s u v (aZ x y)/\RcAt A s u v (aZ x y)/\RcNeAt A s u v (!aZ x y):=by
 intro n
 induction n with
 | zero=>
  intro A s x y u v hd hu rx ry
  #r6 A s x y u v (by cases x <;> cases y <;> simp_all [jg,T.dep]) (by omega) rx ry
 | succ n ih=>
  intro A s x y u v hd hu rx ry
  have hin:A.in1.units+n<cLine:=by show A.units+1+n<cLine;omega
  have items:∀ (l m:List T) (us vs:List Value),(deps l<=n\/deps m<=n)->ReVs s l us->ReVs s m vs->∃ e:Nat->Bool,(∀j (h1:j<us.toArray.size) (h2:j<vs.toArray.size),EqAt A.in1 s us.toArray[j] vs.toArray[j] (e j)) ∧
    (∀(j:Nat) t u,l[j]? =some t->m[j]? =some u->e j=aZ t u):=fun l m us vs hd r1 r2=>by
   &⟨fun j=>aZ (l.getD j .non) (m.getD j .non),fun j h1 h2=> ?_,fun j t u e1 e2=>by simp [List.getD,e1,e2]⟩
   have l1:=r1.length
   have l2:=r2.length
   have h1':j<l.length:=by rw [l1];simpa using h1
   have h2':j<m.length:=by rw [l2];simpa using h2
   have e1:l[j]? =some l[j]:=by simp
   have e2:m[j]? =some m[j]:=by simp
   &⟨u1,z1,w1⟩:=r1.get e1
   &⟨u2,z2,w2⟩:=r2.get e2
   have q1:us.toArray[j] =u1:=by
    have:us[j]? =some us.toArray[j]:=by simp
    rw [z1]at this;#(Option.some.inj this).symm
   have q2:vs.toArray[j] =u2:=by
    have:vs[j]? =some vs.toArray[j]:=by simp
    rw [z2]at this;#(Option.some.inj this).symm
   rw [q1,q2]
   have g1:l.getD j .non=l[j]:=by simp [List.getD,e1]
   have g2:m.getD j .non=m[j]:=by simp [List.getD,e2]
   show EqAt A.in1 s u1 u2 (aZ (l.getD j .non) (m.getD j .non))
   rw [g1,g2]
   &(ih A.in1 s l[j] m[j] u1 u2 ?_ hin w1 w2).1
   rcases hd with hd | hd
   ·#.inl (Nat.le_trans (iZ e1) hd)
   ·#.inr (Nat.le_trans (iZ e2) hd)
  have lists:∀ (l m:List T) (a b:Addr) (us vs:List Value),(deps l<=n\/deps m<=n)->ReVs s l us->ReVs s m vs->s.heap.IsList a us.toArray->s.heap.IsList b vs.toArray →
    EqAt A s (.ref a) (.ref b) (beqTs l m)/\RcAt A s (.ref a) (.ref b) (beqTs l m)/\RcNeAt A s (.ref a) (.ref b) (!beqTs l m):=fun l m a b us vs hd r1 r2 h1 h2=>by
   have l1:=r1.length
   have l2:=r2.length
   have key:RcAt A s (.ref a) (.ref b) (beqTs l m)/\RcNeAt A s (.ref a) (.ref b) (!beqTs l m):=by
    by_cases hl:l.length=m.length
    ·&⟨e,he,hb⟩:=items l m us vs hd r1 r2
     have q:=kZ l m e hb
     have q2:beqTs l m=(List.range us.toArray.size).all e:=by
      rw [q,hl,Nat.min_self]
      simp [l2.symm,hl.symm,l1]
     rw [q2]
     have hsz:us.toArray.size=vs.toArray.size:=by simp;omega
     #⟨RcAt.lists h1 h2 hsz (by omega) he,RcNeAt.lists h1 h2 hsz (by omega) he⟩
    ·rw [o8 hl]
     have hsz:(us.toArray.size != vs.toArray.size)=true:=by simp;omega
     #⟨RcAt.lists_lengths h1 h2 hsz (by omega),RcNeAt.lists_lengths h1 h2 hsz (by omega)⟩
   &⟨?_,key⟩
   by_cases hab:a=b
   ·subst hab
    have:=cN h1 h2
    subst this
    rw [ReVs.refl r1 r2]
    #EqAt.same _
   ·#EqAt.of_refs hab key.1
  cases x with
  | tup l=>
   cases y with
   | tup m=>
    unfold ReV at rx ry
    &⟨a,us,rfl,h1,r1⟩:=rx
    &⟨b,vs,rfl,h2,r2⟩:=ry
    have hd':deps l<=n\/deps m<=n:=by
     simp only [T.dep]at hd;omega
    have l1:=r1.length
    have l2:=r2.length
    &⟨e,he,hb⟩:=items l m us vs hd' r1 r2
    have q:=kZ l m e hb
    have q2:beqTs l m=((List.range (min us.toArray.size vs.toArray.size)).all e&&us.toArray.size == vs.toArray.size):=by
     rw [q];simp [l1,l2]
    have key:RcAt A s (.ref a) (.ref b) (beqTs l m)/\RcNeAt A s (.ref a) (.ref b) (!beqTs l m):=by
     rw [q2]
     #⟨RcAt.tuples h1 h2 (by omega) he,RcNeAt.tuples h1 h2 (by omega) he⟩
    #,aZ
    &⟨?_,key⟩
    by_cases hab:a=b
    ·subst hab
     have:=iP h1 h2
     subst this
     rw [ReVs.refl r1 r2]
     #EqAt.same _
    ·#EqAt.of_refs hab key.1
   | _=>#r6 A s _ _ u v (by simp [jg]) (by omega) rx ry
  | lst l=>
   cases y with
   | lst m=>
    unfold ReV at rx ry
    &⟨a,us,rfl,h1,r1⟩:=rx
    &⟨b,vs,rfl,h2,r2⟩:=ry
    #,aZ
    # lists l m a b us vs (by simp only [T.dep]at hd;omega) r1 r2 h1 h2
   | scr m=>
    unfold ReV at rx ry
    &⟨a,us,rfl,h1,r1⟩:=rx
    &⟨b,vs,rfl,h2,r2⟩:=ry
    #,aZ
    # lists l (m.map T.int) a b us vs (by rw [fO];omega) r1 (dR r2) h1 h2
   | _=>#r6 A s _ _ u v (by simp [jg]) (by omega) rx ry
  | scr l=>
   cases y with
   | lst m=>
    unfold ReV at rx ry
    &⟨a,us,rfl,h1,r1⟩:=rx
    &⟨b,vs,rfl,h2,r2⟩:=ry
    #,aZ
    rw [nJ]
    # lists (l.map T.int) m a b us vs (by rw [fO];omega) (dR r1) r2 h1 h2
   | scr m=>
    unfold ReV at rx ry
    &⟨a,us,rfl,h1,r1⟩:=rx
    &⟨b,vs,rfl,h2,r2⟩:=ry
    #,aZ
    rw [pA]
    # lists (l.map T.int) (m.map T.int) a b us vs (by rw [fO];omega) (dR r1) (dR r2) h1 h2
   | _=>#r6 A s _ _ u v (by simp [jg]) (by omega) rx ry
  | _=>#r6 A s _ _ u v (by simp [jg]) (by omega) rx ry
mutual
def T.nf:T->T
 | .tup l=> .tup (nfs l)
 | .lst l=> .lst (nfs l)
 | .scr l=> .lst (l.map .int)
 | .non=> .non
 | .bl b=> .bl b
 | .int b=> .int b
 | .str b=> .str b
 | .dct a b=> .dct a b
def nfs:List T->List T
 | [] => []
 | t::l=>t.nf::nfs l
end
&rK:∀ (l:List Int),nfs (l.map T.int)=l.map T.int
 | [] =>rfl
 | i::l=>by rw [List.map_cons,nfs,rK l];simp [T.nf]
mutual
theorem kE:∀ (t x:T),aZ t.nf x=aZ t x
 | .non,x=>by simp [T.nf]
 | .bl _,x=>by simp [T.nf]
 | .int _,x=>by simp [T.nf]
 | .str _,x=>by simp [T.nf]
 | .tup l,x=>by cases x <;> simp [T.nf,aZ,beqTs_nf l]
 | .lst l,x=>by cases x <;> simp [T.nf,aZ,beqTs_nf l]
 | .scr l,x=>by cases x <;> simp [T.nf,aZ,nJ,pA]
 | .dct _ _,x=>by simp [T.nf]
theorem beqTs_nf:∀ (l m:List T),beqTs (nfs l) m=beqTs l m
 | [],m=>by simp [nfs]
 | t::l,m=>by cases m <;> simp [nfs,beqTs,kE t,beqTs_nf l]
end
&int_nf {s:Shared}{t:T}{i:Int}{k:Tok}(r:ReV s t (.int i k)):t.nf= .int i:=by
 cases t with
 | non=>unfold ReV at r;cases r
 | bl b=>unfold ReV at r;cases r
 | int j=>unfold ReV at r;&⟨t,e⟩:=r;injection e with e1 _;subst e1;rfl
 | str x=>unfold ReV at r;&⟨t,e⟩:=r;cases e
 | tup l=>unfold ReV at r;&⟨a,its,e,_⟩:=r;cases e
 | lst l=>unfold ReV at r;&⟨a,its,e,_⟩:=r;cases e
 | scr l=>unfold ReV at r;&⟨a,its,e,_⟩:=r;cases e
 | dct _ _=>unfold ReV at r;#r.elim
&uR {s:Shared}:∀ {l:List T} {us:List Value} {ns:List Int},ReVs s l us->IntsAre us ns->nfs l=ns.map T.int
 | [],us,ns,r,h=>by cases ReVs.nil_iff.mp r;cases h;rfl
 | t::l,us,ns,r,h=>by
  &⟨u,ws,rfl,p,q⟩:=ReVs.cons_iff.mp r
  cases h with
  | cons a b hh=>rw [nfs,int_nf p,uR q hh];rfl
mutual
theorem ReV.nf {s:Shared}:∀ {t u:T} {v:Value},ReV s t v->ReV s u v->t.nf=u.nf
 | .non,u,v,r,q=>by
  unfold ReV at r;subst r
  cases u <;> (unfold ReV at q) <;> first | rfl | (cases q;done) | (&⟨_,e⟩:=q;cases e;done) | (&⟨_,_,e,_⟩:=q;cases e;done)
 | .bl b,u,v,r,q=>by
  unfold ReV at r;subst r
  cases u <;> (unfold ReV at q) <;> first | (cases q;done) | (cases q;rfl) | (&⟨_,e⟩:=q;cases e;done) | (&⟨_,_,e,_⟩:=q;cases e;done)
 | .int b,u,v,r,q=>by
  unfold ReV at r;&⟨k,rfl⟩:=r
  cases u <;> (unfold ReV at q) <;> first | (cases q;done) | (&⟨_,e⟩:=q;cases e;done) | (&⟨_,e⟩:=q;cases e;rfl) | (&⟨_,_,e,_⟩:=q;cases e;done)
 | .str b,u,v,r,q=>by
  unfold ReV at r;&⟨k,rfl⟩:=r
  cases u <;> (unfold ReV at q) <;> first | (cases q;done) | (&⟨_,e⟩:=q;cases e;done) | (&⟨_,e⟩:=q;cases e;rfl) | (&⟨_,_,e,_⟩:=q;cases e;done)
 | .tup l,u,v,r,q=>by
  unfold ReV at r;&⟨a,its,rfl,h1,h2⟩:=r
  cases u with
  | non=>unfold ReV at q;cases q
  | dct _ _=>unfold ReV at q;#q.elim
  | bl _=>unfold ReV at q;cases q
  | int _=>unfold ReV at q;&⟨_,e⟩:=q;cases e
  | str _=>unfold ReV at q;&⟨_,e⟩:=q;cases e
  | tup m=>
   unfold ReV at q;&⟨a',its',e,h1',h2'⟩:=q
   injection e with e;subst e
   have:=iP h1 h1';subst this
   #,T.nf
   rw [ReVs.nf h2 h2']
  | lst m=>unfold ReV at q;&⟨a',its',e,h1',h2'⟩:=q;injection e with e;subst e;#absurd rfl (ne_of_list_tuple h1' h1)
  | scr m=>unfold ReV at q;&⟨a',its',e,h1',h2'⟩:=q;injection e with e;subst e;#absurd rfl (ne_of_list_tuple h1' h1)
 | .lst l,u,v,r,q=>by
  unfold ReV at r;&⟨a,its,rfl,h1,h2⟩:=r
  cases u with
  | non=>unfold ReV at q;cases q
  | dct _ _=>unfold ReV at q;#q.elim
  | bl _=>unfold ReV at q;cases q
  | int _=>unfold ReV at q;&⟨_,e⟩:=q;cases e
  | str _=>unfold ReV at q;&⟨_,e⟩:=q;cases e
  | lst m=>
   unfold ReV at q;&⟨a',its',e,h1',h2'⟩:=q
   injection e with e;subst e
   have:=cN h1 h1';subst this
   #,T.nf
   rw [ReVs.nf h2 h2']
  | tup m=>unfold ReV at q;&⟨a',its',e,h1',h2'⟩:=q;injection e with e;subst e;#absurd rfl (ne_of_list_tuple h1 h1')
  | scr m=>
   unfold ReV at q;&⟨a',its',e,h1',h2'⟩:=q
   injection e with e;subst e
   have:=cN h1 h1';subst this
   #,T.nf
   rw [ReVs.nf h2 (dR h2'),rK]
 | .scr l,u,v,r,q=>by
  unfold ReV at r;&⟨a,its,rfl,h1,h2⟩:=r
  cases u with
  | non=>unfold ReV at q;cases q
  | dct _ _=>unfold ReV at q;#q.elim
  | bl _=>unfold ReV at q;cases q
  | int _=>unfold ReV at q;&⟨_,e⟩:=q;cases e
  | str _=>unfold ReV at q;&⟨_,e⟩:=q;cases e
  | lst m=>
   unfold ReV at q;&⟨a',its',e,h1',h2'⟩:=q
   injection e with e;subst e
   have:=cN h1 h1';subst this
   have z:=uR h2' h2
   #,T.nf
   rw [z]
  | tup m=>unfold ReV at q;&⟨a',its',e,h1',h2'⟩:=q;injection e with e;subst e;#absurd rfl (ne_of_list_tuple h1 h1')
  | scr m=>
   unfold ReV at q;&⟨a',its',e,h1',h2'⟩:=q
   injection e with e;subst e
   have:=cN h1 h1';subst this
   rw [iQ h2 h2']
 | .dct _ _,u,v,r,q=>by unfold ReV at r;#r.elim
theorem ReVs.nf {s:Shared}:∀ {l m:List T} {us:List Value},ReVs s l us->ReVs s m us->nfs l=nfs m
 | [],m,us,r,q=>by
  cases ReVs.nil_iff.mp r
  cases m with
  | nil=>rfl
  | cons _ _=>&⟨_,_,e,_⟩:=ReVs.cons_iff.mp q;cases e
 | t::l,m,us,r,q=>by
  &⟨v,ws,rfl,p,z⟩:=ReVs.cons_iff.mp r
  cases m with
  | nil=>cases ReVs.nil_iff.mp q
  | cons u m=>
   &⟨v',ws',e,p',z'⟩:=ReVs.cons_iff.mp q
   injection e with e1 e2
   subst e1 e2
   rw [nfs,nfs,ReV.nf p p',ReVs.nf z z']
end
section
variable {X:Cx}{a b c:Expr}{fa fb fc:En->Rs T}{pos:Pos}
def gH (x y:T):Bool:=(decide (x.dep<=60)||decide (y.dep<=60))&&(x.nd&&y.nd)
def il (x y:T):Rs T:=if gH x y=true then .ok (.bl (aZ x y))else .bad
def lz (x y:T):Rs T:=if gH x y=true then .ok (.bl (!aZ x y))else .bad
&fq {x y:T}(h:x.dep<=60)(hx:x.nd=true)(hy:y.nd=true):gH x y=true:=by #,gH;rw [decide_eq_true h,hx,hy];rfl
&rY {x y:T}(h:y.dep<=60)(hx:x.nd=true)(hy:y.nd=true):gH x y=true:=by #,gH;rw [decide_eq_true h,hx,hy,Bool.or_true];rfl
&jt {x y:T}(h:gH x y=true):x.nd=true/\y.nd=true:=by
 unfold gH at h
 #Bool.and_eq_true_iff.mp (Bool.and_eq_true_iff.mp h).2
&oR {x y:T}(h:gH x y=true):x.dep<=60\/y.dep<=60:=by
 unfold gH at h
 replace h:=(Bool.and_eq_true_iff.mp h).1
 rcases Bool.or_eq_true_iff.mp h with h | h
 ·#.inl (of_decide_eq_true h)
 ·#.inr (of_decide_eq_true h)
&ij (hu:X.A.units+60<cLine):OpT X (compareOp .Eq) il:=by
 intro pins s σ H O x y vx vy ux uy Q I hf rx ry r1 r2 hp
 unfold il at hp
 split at hp
 ·rename_i h
  have z:=eq_T 60 X.A s x y ux uy (oR h) hu (Rep.val I (jt h).1 rx r1) (Rep.val I (jt h).2 ry r2)
  #z.2.1 _ _ _ _ ⟨.bl _,H,I,rfl,hp H (Same.refl H) _ (Rep.bl_ _)⟩
 ·#hp.elim
&mw (hu:X.A.units+60<cLine):OpT X (compareOp .NotEq) lz:=by
 intro pins s σ H O x y vx vy ux uy Q I hf rx ry r1 r2 hp
 unfold lz at hp
 split at hp
 ·rename_i h
  have z:=eq_T 60 X.A s x y ux uy (oR h) hu (Rep.val I (jt h).1 rx r1) (Rep.val I (jt h).2 ry r2)
  #z.2.2 _ _ _ _ ⟨.bl _,H,I,rfl,hp H (Same.refl H) _ (Rep.bl_ _)⟩
 ·#hp.elim
def T.items:T->Option (List T)
 | .tup l=>some l
 | .lst l=>some l
 | .scr l=>some (l.map T.int)
 | _=>none
def o9 (x:T)(l:List T):Bool:=l.any fun y=>aZ y x
def inT (x y:T):Rs T:=match y.items with
 | some l=>if (x.dep<=60\/deps l<=60)/\x.nd=true/\y.nd=true then .ok (.bl (o9 x l))else .bad
 | none=> .bad
&mem_fun {A:Around}{s:Shared}{x:T}{ux:Value}(rx:ReV s x ux)(hu:A.units+60<cLine){l:List T}{us:List Value}(hd:x.dep<=60\/deps l<=60)(r:ReVs s l us) :
  ∃e:Value->Bool,(∀y∈us,EqAt A s y ux (e y))/\us.any e=o9 x l:=by
 classical
 have ex:∀ y∈us,∃t∈l,ReV s t y:=fun y hy=>by
  &⟨i,hi,rfl⟩:=List.getElem_of_mem hy
  have hl:=r.length
  have e1:l[i]? =some l[i]:=by simp
  &⟨u,q1,q2⟩:=r.get e1
  have:us[i]? =some us[i]:=by simp
  rw [this]at q1;cases q1
  #⟨l[i],List.getElem_mem _,q2⟩
 let e:Value->Bool:=fun y=>decide (∃t∈l,ReV s t y/\aZ t x=true)
 have dep:∀ t∈l,t.dep<=60\/x.dep<=60:=fun t ht=>by
  rcases hd with h | h
  ·#.inr h
  ·&⟨i,hi,rfl⟩:=List.getElem_of_mem ht
   #.inl (Nat.le_trans (iZ (i:=i) (by simp)) h)
 have uniq:∀ y t t',ReV s t y->ReV s t' y->aZ t x=aZ t' x:=fun y t t' z z'=>by
  rw [<-kE t,<-kE t',ReV.nf z z']
 have agree:∀ y t,t∈l->ReV s t y->e y=aZ t x:=fun y t h z=>by
  show decide (∃t∈l,ReV s t y/\aZ t x=true)=aZ t x
  cases q:aZ t x with
  | true=>#decide_eq_true ⟨t,h,z,q⟩
  | false=>
   &decide_eq_false ?_
   rintro ⟨t',h',z',q'⟩
   rw [<-uniq y t t' z z',q]at q'
   cases q'
 &⟨e,fun y hy=> ?_,?_⟩
 ·&⟨t,h,z⟩:=ex y hy
  rw [agree y t h z]
  #(eq_T 60 A s t x y ux (dep t h) hu z rx).1
 ·have go:∀ (l':List T) (us':List Value),(∀t∈l',t∈l)->ReVs s l' us'->us'.any e=l'.any fun y=>aZ y x:=by
   intro l'
   induction l' with
   | nil=>intro us' _ r';rw [ReVs.nil_iff.mp r'];rfl
   | cons t l' ih=>
    intro us' sub r'
    &⟨u,ws,rfl,p,q⟩:=ReVs.cons_iff.mp r'
    rw [List.any_cons,List.any_cons,ih ws (fun t ht=>sub t (List.mem_cons_of_mem _ ht)) q,agree u t (sub t List.mem_cons_self) p]
  #go l us (fun _ h=>h) r
&vR {s:Shared}{y:T}{u:Value}{l:List T}(r:ReV s y u)(h:y.items=some l):∃ a us,u= .ref a/\ReVs s l us/\(s.heap.IsTuple a us.toArray\/s.heap.IsList a us.toArray):=by
 cases y with
 | tup m=>cases h;unfold ReV at r;&⟨a,us,e,h1,h2⟩:=r;#⟨a,us,e,h2,.inl h1⟩
 | lst m=>cases h;unfold ReV at r;&⟨a,us,e,h1,h2⟩:=r;#⟨a,us,e,h2,.inr h1⟩
 | scr m=>cases h;unfold ReV at r;&⟨a,us,e,h1,h2⟩:=r;#⟨a,us,e,dR h2,.inr h1⟩
 | _=>cases h
&ot_in (hu:X.A.units+61<cLine):OpT X (compareOp .In) inT:=by
 intro pins s σ H O x y vx vy ux uy Q I hf rx ry r1 r2 hp
 unfold inT at hp
 split at hp
 ·rename_i l hl
  split at hp
  ·rename_i hd3
   &⟨hd,hnx,hny⟩:=hd3
   &⟨a,us,rfl,rs,hh⟩:=vR (Rep.val I hny ry r2) hl
   &⟨e,he,ha⟩:=mem_fun (A:=X.A.in1) (Rep.val I hnx rx r1) (by show X.A.units+1+60<cLine;omega) hd rs
   have q:=hp H (Same.refl H) _ (Rep.bl_ (o9 x l))
   have he':∀ y,y∈us.toArray->EqAt X.A.in1 s y ux (e y):=fun y hy=>he y (by simpa using hy)
   have ha':us.toArray.any e=o9 x l:=by simpa using ha
   rcases hh with hh | hh
   ·#in_tupleAt e hh he' (by rw [ha'];#⟨.bl _,H,I,rfl,q⟩)
   ·#in_listAt e hh he' (by rw [ha'];#⟨.bl _,H,I,rfl,q⟩)
  ·#hp.elim
 ·#hp.elim
def ch (g g':T->T->Rs T)(fa fb fc:En->Rs T)(ρ:En):Rs T:=do
 let x <-fa ρ
 let y <-fb ρ
 let z <-g x y
 match z with
 | .bl true=>do
  let w <-fc ρ
  g' y w
 | .bl false=> .ok (.bl false)
 | _=> .bad
&q_chain {op op':CmpOp}{g g':T->T->Rs T}(ho:OpT X (compareOp op) g)(ho':OpT X (compareOp op') g')(ha:b9 X a fa)(hb:b9 X b fb)(hc:b9 X c fc)
  (hm:lastMarks [op,op'] [b,c] =false:=by with_unfolding_all rfl):b9 X (.Compare a [op,op'] [b,c] pos) (ch g g' fa fb fc):=by
 intro pins s σ H Q I ⟨ρ,O,E,hq⟩
 have h1:=aU E hq
 &Compare_chain (bU (ha pins s σ H _ I h1) fun v s1 ⟨x,H1,I1,r1,t,rt,s',E',q1⟩=>chain_link ?_) hm
 have h2:=aU (f:=fb) E' q1
 &bU (hb pins s1 σ H1 _ I1 h2) fun u s2 hh_=> ?_
 &⟨y,H2,I2,r2,t2,rt2,s'',E'',q2⟩:=hh_
 &bU (ho pins s2 σ H2 O t t2 x y v u (fun v' H'=> ∃t',Rep X.K O H' t' v'/\Same H2 H'/\Post X H' (match t' with
  | .bl true=>fc ρ >>= fun w=>g' t2 w
  | .bl false=> .ok (.bl false)
  | _=> .bad) (fun t H'=> ∀v,Rep X.K O H' t v->Q v H')) I2 (fun p=>E''.fresh) (rt.same s'') rt2 r1 r2 (Post.mono q2.bind fun t' H' s3 q v rv=>⟨t',rv,s3,q⟩)) fun d s3 ⟨z,H3,I3,r3,t3,rt3,sm3,q3⟩=> ?_
 have E3:=E''.same sm3
 split at q3
 ·cases Rep.bl_iff.mp rt3
  cases r3
  &wpAny_truthy_bool (ite_tt (chain_last ?_))
  have h4:=aU (f:=fc) E3 q3
  &bU (hc pins s3 σ H3 _ I3 h4) fun w' s4 ⟨z',H4,I4,r4,t4,rt4,s4',E4,q4⟩=> ?_
  #ho' pins s4 σ H4 O t2 t4 y z' u w' Q I4 (fun p=>E4.fresh) ((rt2.same sm3).same s4') rt4 r2 r4 q4
 ·cases Rep.bl_iff.mp rt3
  cases r3
  &wpAny_truthy_bool (ite_ff ⟨.bl false,H3,I3,rfl,q3 H3 (Same.refl H3) _ (Rep.bl_ false)⟩)
 ·#q3.elim
def tb (f:En->Rs T)(ρ:En):Rs Bool:=do
 let x <-f ρ
 match x with
 | .bl k=> .ok k
 | _=> .bad
def bt (f:En->Rs Bool)(ρ:En):Rs T:=do
 let k <-f ρ
 .ok (.bl k)
&qt_val {e:Expr}{f:En->Rs T}(h:b9 X e f)(he:∀ whole,isTrue e X.env whole=(do let v <-whole;standAt e.pos;holding [v] (truthy v)):=by intro _;rfl):sC X e (tb f):=by
 intro pins s σ H Q I ⟨ρ,O,E,hq⟩
 &xk h he pins s σ H Q I ?_
 &⟨ρ1,O1,E1,h1⟩:=aU E hq
 &⟨ρ1,O1,E1,Post.mono h1 fun ts H1 s1 q vs r=> ?_⟩
 &⟨t',r',s',E',q'⟩:=q vs r
 split at q'
 ·#⟨_,Rep.bl_iff.mp r',q' H1 (Same.refl H1)⟩
 ·#q'.elim
&qt_cmp {op:CmpOp}{g:T->T->Rs T}(ho:OpT X (compareOp op) g)(ha:b9 X a fa)(hb:b9 X b fb)(hm:behindInMarks op b=false:=by rfl):sC X (.Compare a [op] [b] pos) (tb (o2 g fa fb)):=by
 intro pins s σ H Q I ⟨ρ,O,E,hq⟩
 have hq':Post X H (o2 g fa fb ρ) fun t H'=> ∀v,Rep X.K O H' t v->∃ k,v= .bl k/\Q k H':=Post.mono hq.bind fun t H' s' q v r=>by
  split at q
  ·#⟨_,Rep.bl_iff.mp r,q H' (Same.refl H')⟩
  ·#q.elim
 have h1:=aU E hq'
 &wpAny_isTrue_Compare1 (bU (ha pins s σ H _ I h1) fun v s1 ⟨x,H1,I1,r1,t,rt,s',E',q1⟩=> ?_) hm
 have h2:=aU (f:=fb) E' q1
 &bU (hb pins s1 σ H1 _ I1 h2) fun u s2 hh_=> ?_
 &⟨y,H2,I2,r2,t2,rt2,s'',E'',q2⟩:=hh_
 &bU (ho pins s2 σ H2 O t t2 x y v u _ I2 (fun p=>E''.fresh) (rt.same s'') rt2 r1 r2 q2) fun d s3 hh_=> ?_
 &⟨z,H3,I3,r3,k,e,q3⟩:=hh_
 subst e
 cases r3
 #wpAny_truthy_bool ⟨H3,I3,q3⟩
&w8 {op op':CmpOp}{g g':T->T->Rs T}(ho:OpT X (compareOp op) g)(ho':OpT X (compareOp op') g')(ha:b9 X a fa)(hb:b9 X b fb)(hc:b9 X c fc)
  (hm:lastMarks [op,op'] [b,c] =false:=by with_unfolding_all rfl):sC X (.Compare a [op,op'] [b,c] pos) (tb (ch g g' fa fb fc)):=by
 intro pins s σ H Q I ⟨ρ,O,E,hq⟩
 have hq':Post X H (ch g g' fa fb fc ρ) fun t H'=> ∀v,Rep X.K O H' t v->∃ k,v= .bl k/\Q k H':=Post.mono hq.bind fun t H' s' q v r=>by
  split at q
  ·#⟨_,Rep.bl_iff.mp r,q H' (Same.refl H')⟩
  ·#q.elim
 have h1:=aU E hq'
 &isTrue_chain (bU (ha pins s σ H _ I h1) fun v s1 ⟨x,H1,I1,r1,t,rt,s',E',q1⟩=>test_link ?_) hm
 have h2:=aU (f:=fb) E' q1
 &bU (hb pins s1 σ H1 _ I1 h2) fun u s2 hh_=> ?_
 &⟨y,H2,I2,r2,t2,rt2,s'',E'',q2⟩:=hh_
 &bU (ho pins s2 σ H2 O t t2 x y v u (fun v' H'=> ∃t',Rep X.K O H' t' v'/\Same H2 H'/\Post X H' (match t' with
  | .bl true=>fc ρ >>= fun w=>g' t2 w
  | .bl false=> .ok (.bl false)
  | _=> .bad) (fun t H'=> ∀v,Rep X.K O H' t v->∃ k,v= .bl k/\Q k H')) I2 (fun p=>E''.fresh) (rt.same s'') rt2 r1 r2 (Post.mono q2.bind fun t' H' s3 q v rv=>⟨t',rv,s3,q⟩)) fun d s3 ⟨z,H3,I3,r3,t3,rt3,sm3,q3⟩=> ?_
 have E3:=E''.same sm3
 split at q3
 ·cases Rep.bl_iff.mp rt3
  cases r3
  &wpAny_truthy_bool (ite_tt (test_last ?_))
  have h4:=aU (f:=fc) E3 q3
  &bU (hc pins s3 σ H3 _ I3 h4) fun w' s4 ⟨z',H4,I4,r4,t4,rt4,s4',E4,q4⟩=> ?_
  &bU (ho' pins s4 σ H4 O t2 t4 y z' u w' _ I4 (fun p=>E4.fresh) ((rt2.same sm3).same s4') rt4 r2 r4 q4) fun d' s5 ⟨z2,H5,I5,r5,k2,e2,q5⟩=> ?_
  subst e2
  cases r5
  #wpAny_truthy_bool ⟨H5,I5,q5⟩
 ·cases Rep.bl_iff.mp rt3
  cases r3
  &⟨k,e,q⟩:=q3 H3 (Same.refl H3) _ (Rep.bl_ false)
  cases e
  #wpAny_truthy_bool (ite_ff ⟨H3,I3,q⟩)
 ·#q3.elim
def jT (f g:En->Rs Bool)(ρ:En):Rs Bool:=do
 let k <-f ρ
 if k then g ρ else .ok false
def kF (f g:En->Rs Bool)(ρ:En):Rs Bool:=do
 let k <-f ρ
 if k then .ok true else g ρ
def du (f:En->Rs Bool)(ρ:En):Rs Bool:=do
 let k <-f ρ
 .ok (!k)
variable {f g:En->Rs Bool}{cL:List Expr}
abbrev PWt (X:Cx)(e:Expr)(f:En->Rs Bool):Prop:=PW X e (wJ X f)
&qw_and1 (ha:sC X a f):PWt X (.BoolOp .And [a] pos) f:=pw_and1 ha
&qw_or1 (ha:sC X a f):PWt X (.BoolOp .Or [a] pos) f:=xi ha
&qw_and (ha:sC X a f)(hb:PWt X (.BoolOp .And (b::cL) pos) g):PWt X (.BoolOp .And (a::b::cL) pos) (jT f g):=by
 intro wh pins s σ H Q I ⟨ρ,O,E,hq⟩
 &pw_and ha hb wh pins s σ H Q I ?_
 &⟨ρ1,O1,E1,h1⟩:=j0 E hq
 &⟨ρ1,O1,E1,Post.mono h1 fun k H1 s1 q=> ?_⟩
 &⟨s',E',q'⟩:=q
 cases k with
 | true=>rw [if_pos rfl];#⟨ρ,O,E',by simpa using q'⟩
 | false=>rw [if_neg Bool.false_ne_true];#q' H1 (Same.refl H1)
&qw_or (ha:sC X a f)(hb:PWt X (.BoolOp .Or (b::cL) pos) g):PWt X (.BoolOp .Or (a::b::cL) pos) (kF f g):=by
 intro wh pins s σ H Q I ⟨ρ,O,E,hq⟩
 &pw_or ha hb wh pins s σ H Q I ?_
 &⟨ρ1,O1,E1,h1⟩:=j0 E hq
 &⟨ρ1,O1,E1,Post.mono h1 fun k H1 s1 q=> ?_⟩
 &⟨s',E',q'⟩:=q
 cases k with
 | true=>rw [if_pos rfl];#q' H1 (Same.refl H1)
 | false=>rw [if_neg Bool.false_ne_true];#⟨ρ,O,E',by simpa using q'⟩
&qt_w {e:Expr}(h:PWt X e f):sC X e f:=h.pt
&qt_not (ha:sC X a f):sC X (.UnaryOp .Not a pos) (du f):=by
 intro pins s σ H Q I ⟨ρ,O,E,hq⟩
 &xm ha pins s σ H Q I ?_
 &⟨ρ1,O1,E1,h1⟩:=j0 E hq
 #⟨ρ1,O1,E1,Post.mono h1 fun k H1 s1 ⟨s',E',q'⟩=>q' H1 (Same.refl H1)⟩
def cY (f g:En->Rs T)(ρ:En):Rs T:=do
 let x <-f ρ
 match x with
 | .bl true=>g ρ
 | .bl false=> .ok (.bl false)
 | _=> .bad
def orV (f g:En->Rs T)(ρ:En):Rs T:=do
 let x <-f ρ
 match x with
 | .bl true=> .ok (.bl true)
 | .bl false=>g ρ
 | _=> .bad
def notV:T->Rs T
 | .bl k=> .ok (.bl (!k))
 | _=> .bad
&q_one {op}(h:b9 X a fa):b9 X (.BoolOp op [a] pos) fa:=pe_one h
&q_and (ha:b9 X a fa)(hb:b9 X (.BoolOp .And (b::cL) pos) fb):b9 X (.BoolOp .And (a::b::cL) pos) (cY fa fb):=by
 intro pins s σ H Q I ⟨ρ,O,E,hq⟩
 &pe_and ha hb pins s σ H Q I ?_
 &⟨ρ1,O1,E1,h1⟩:=aU E hq
 &⟨ρ1,O1,E1,Post.mono h1 fun ts H1 s1 q vs r=> ?_⟩
 &⟨t',r',s',E',q'⟩:=q vs r
 split at q'
 ·#⟨true,Rep.bl_iff.mp r',by rw [if_pos rfl];#⟨ρ,O,E',q'⟩⟩
 ·#⟨false,Rep.bl_iff.mp r',by rw [if_neg Bool.false_ne_true];#q' H1 (Same.refl H1) _ (Rep.bl_ false)⟩
 ·#q'.elim
&q_or (ha:b9 X a fa)(hb:b9 X (.BoolOp .Or (b::cL) pos) fb):b9 X (.BoolOp .Or (a::b::cL) pos) (orV fa fb):=by
 intro pins s σ H Q I ⟨ρ,O,E,hq⟩
 &pe_or ha hb pins s σ H Q I ?_
 &⟨ρ1,O1,E1,h1⟩:=aU E hq
 &⟨ρ1,O1,E1,Post.mono h1 fun ts H1 s1 q vs r=> ?_⟩
 &⟨t',r',s',E',q'⟩:=q vs r
 split at q'
 ·#⟨true,Rep.bl_iff.mp r',by rw [if_pos rfl];#q' H1 (Same.refl H1) _ (Rep.bl_ true)⟩
 ·#⟨false,Rep.bl_iff.mp r',by rw [if_neg Bool.false_ne_true];#⟨ρ,O,E',q'⟩⟩
 ·#q'.elim
&q_not (ha:b9 X a fa):b9 X (.UnaryOp .Not a pos) (o1 notV fa):=by
 intro pins s σ H Q I ⟨ρ,O,E,hq⟩
 &pe_not ha pins s σ H Q I ?_
 &⟨ρ1,O1,E1,h1⟩:=aU E hq
 &⟨ρ1,O1,E1,Post.mono h1 fun ts H1 s1 q vs r=> ?_⟩
 &⟨t',r',s',E',q'⟩:=q vs r
 unfold notV at q'
 split at q'
 ·#⟨_,Rep.bl_iff.mp r',q' H1 (Same.refl H1) _ (Rep.bl_ _)⟩
 ·#q'.elim
def ifE (f:En->Rs Bool)(fa fb:En->Rs T)(ρ:En):Rs T:=do
 let k <-f ρ
 if k then fa ρ else fb ρ
&q_if (hc:sC X c f)(ha:b9 X a fa)(hb:b9 X b fb):b9 X (.IfExp c a b pos) (ifE f fa fb):=by
 intro pins s σ H Q I ⟨ρ,O,E,hq⟩
 &xy hc ha hb pins s σ H Q I ?_
 &⟨ρ1,O1,E1,h1⟩:=j0 E hq
 &⟨ρ1,O1,E1,Post.mono h1 fun k H1 s1 q=> ?_⟩
 &⟨s',E',q'⟩:=q
 cases k with
 | true=>rw [if_pos rfl];#⟨ρ,O,E',by simpa using q'⟩
 | false=>rw [if_neg Bool.false_ne_true];#⟨ρ,O,E',by simpa using q'⟩
end
end Tr
namespace HT
open PySem PyProof.Rows
section
variable {prog:Program}{w:World}{A:Around}{E:Value->Shared->Prop}{s:Shared}
&jB {t:Addr}{items:Array Value}{Q:Bool->Shared->Prop}(ht:IsTup s.heap t items)(h:Q true s):wpAny (model prog w) A (Builtin.Tuple.tupleIsExact (.ref t)) Q E s:=by
 #,Builtin.Tuple.tupleIsExact
 &wpAny_bind (wpAny_typeOf ht.typeIs (wpAny_pure ?_))
 #h
&getItem_tuple_whole {t sl:Addr}{items:Array Value}{vl vu:Value}{lo hi:Option Int}{Q:Value->Shared->Prop}(ht:IsTup s.heap t items)(hs:s.heap.IsSliceOf sl vl vu .none)(pl:IsPart vl lo)(pu:IsPart vu hi)
  (hw:sIx items.size 0 lo=0/\sIx items.size items.size hi=items.size) (h:Q (.ref t) s):wpAny (model prog w) A (getItem (.ref t) (.ref sl)) Q E s:=by
 &⟨os,hos,hcs,hds⟩:=id hs
 have hTs:s.TypeIs (.ref sl) "slice":=⟨os,hos,hcs⟩
 #,getItem
 try with_reducible &wpAny_holding ?_
 first | &wpAny_bind (wpAny_pure ?_) | skip
 &wpAny_bind (wpAny_sequenceKey ht.typeIs (by decide) ?_)
 &wpAny_bind (wpAny_callSpecial?_slot (name:=Str.ofString "__getitem__") ht.typeIs PyProof.Rows.slot_tuple_getitem
  (wpAny_call_entry PyProof.Rows.slot_tuple_getitem ht.typeIs entry_tuple_getitem ?_ (args_tuple_getitem _ _)))
 show wpAny _ _ (Builtin.Tuple.tupleItemsOf (.ref t) >>= _) _ _ s
 &wpAny_bind (tupleItemsOf_ ht ?_)
 &wpAny_bind (wpAny_typeOf hTs ?_)
 rw [if_pos (by decide)]
 &wpAny_bind (gL hs pl pu ?_)
 have hyes:(((sIx items.size 0 lo:Nat):Int) == 0&&(1:Int) == 1&&(sIx items.size items.size hi - sIx items.size 0 lo) == items.size)=true:=by
  rw [hw.1,hw.2];simp
 show wpAny _ _ (if (((sIx items.size 0 lo:Nat):Int) == 0&&(1:Int) == 1&&(sIx items.size items.size hi - sIx items.size 0 lo) == items.size)=true then _ else _) _ _ s
 rw [if_pos hyes]
 first
  | &wpAny_bind (jB ht ?_)
  | &jB ht ?_
 try rw [if_pos rfl]
 first
  | #wpAny_bind (wpAny_rule (wpAny_pure ⟨_,rfl,wpAny_pure h⟩))
  | #wpAny_bind (wpAny_rule (wpAny_bind (wpAny_pure (wpAny_pure ⟨_,rfl,wpAny_pure h⟩))))
&kI {sl:Addr}{t:Tok}{n:Nat}{Q:Int×Int×Nat->Shared->Prop}(hs:s.heap.IsSliceOf sl .none .none (.int (-1) t))
  (h:Q ((n:Int) - 1,-1,n) s):wpAny (model prog w) A (Builtin.Slice.sliceApplied (.ref sl) (pure (n:Int))) Q E s:=by
 &⟨os,hos,hcs,hds⟩:=id hs
 #,Builtin.Slice.sliceApplied Builtin.Slice.sliceFields
 &wpAny_bind (wpAny_bind (wpAny_field hos hds (x:=.none) rfl (wpAny_bind (wpAny_field hos hds (x:=.none) rfl (wpAny_bind (wpAny_field hos hds (x:=.int (-1) t) rfl (wpAny_pure ?_)))))))
 &wpAny_bind (slicePart_int ?_)
 show wpAny _ _ (if ((-1:Int) == 0)=true then _ else _) _ _ s
 rw [if_neg (by decide)]
 &wpAny_bind (slicePart_none (wpAny_bind (slicePart_none (wpAny_bind (wpAny_pure ?_)))))
 show wpAny _ _ (match Builtin.Slice.sliceAdjust none none (-1) (n:Int)with | (lo,hi)=>pure (lo,(-1:Int),Builtin.Slice.slicePlaces lo hi (-1))) _ _ s
 have e1:Builtin.Slice.sliceAdjust none none (-1) (n:Int)=((n:Int) - 1,-1):=by simp [Builtin.Slice.sliceAdjust]
 have e2:Builtin.Slice.slicePlaces ((n:Int) - 1) (-1) (-1)=n:=by
  #,Builtin.Slice.slicePlaces
  simp only [show ¬((-1:Int) > 0)by decide,if_false,Int.neg_neg,Int.ediv_one]
  split <;> omega
 rw [e1]
 show wpAny _ _ (pure ((n:Int) - 1,(-1:Int),Builtin.Slice.slicePlaces ((n:Int) - 1) (-1) (-1))) _ _ s
 rw [e2]
 #wpAny_pure h
&ro (xs:List Value):((List.range xs.length).filterMap fun(m:Nat)=>xs.toArray[(((xs.length:Int) - 1)+(m:Int)*(-1)).toNat]?)=xs.reverse:=by
 apply List.ext_getElem?
 intro i
 have key:∀ m∈List.range xs.length,xs.toArray[(((xs.length:Int) - 1)+(m:Int)*(-1)).toNat]? =some (xs.reverse.getD m .none):=fun m hm=>by
  have hm':m<xs.length:=List.mem_range.mp hm
  have e:(((xs.length:Int) - 1)+(m:Int)*(-1)).toNat=xs.length - 1 - m:=by omega
  rw [e,List.getElem?_toArray,List.getElem?_eq_getElem (by omega)]
  have:m<xs.reverse.length:=by simpa using hm'
  simp [List.getD,List.getElem?_eq_getElem this,List.getElem_reverse]
 have hmap:((List.range xs.length).filterMap fun(m:Nat)=>xs.toArray[(((xs.length:Int) - 1)+(m:Int)*(-1)).toNat]?)=(List.range xs.length).map fun m=>xs.reverse.getD m .none:=by
  have gen:∀ (r:List Nat) (f:Nat->Option Value) (g:Nat->Value),(∀m∈r,f m=some (g m))->r.filterMap f=r.map g:=by
   intro r f g
   induction r with
   | nil=>intro _;rfl
   | cons m r ih=>
    intro h
    rw [List.filterMap_cons,h m List.mem_cons_self,List.map_cons,ih fun m' hm'=>h m' (List.mem_cons_of_mem _ hm')]
  #gen _ _ _ key
 rw [hmap]
 rw [List.getElem?_map]
 by_cases hi:i<xs.length
 ·have hr:i<xs.reverse.length:=by simpa using hi
  rw [List.getElem?_range hi]
  simp [List.getD,List.getElem?_eq_getElem hr]
 ·rw [List.getElem?_eq_none (by simpa using hi),List.getElem?_eq_none (by simpa using hi)]
  rfl
&slicePick_rev (xs:List Value):slicePick xs.toArray none none (some (-1))=xs.reverse.toArray:=by
 have e:slicePick xs.toArray none none (some (-1))=((sliceRange ((xs.toArray.size:Int) - 1) (-1) (-1)).filterMap (xs.toArray[·]?)).toArray:=rfl
 rw [e,<-ro xs,List.size_toArray]
 #,sliceRange
 have c:(if ((xs.length:Int) - 1) > -1 then(((xs.length:Int) - 1) - (-1) - (-1) - 1) / (-(-1:Int))else 0).toNat=xs.length:=by
  rw [Int.neg_neg,Int.ediv_one]
  split <;> omega
 show(((List.range (if ((xs.length:Int) - 1) > -1 then(((xs.length:Int) - 1) - (-1) - (-1) - 1) / (-(-1:Int))else 0).toNat).map fun(k:Nat)=>(((xs.length:Int) - 1)+(-1)*(k:Int)).toNat).filterMap (xs.toArray[·]?)).toArray=_
 rw [c,List.filterMap_map]
 congr 2
 funext k
 show xs.toArray[(((xs.length:Int) - 1)+(-1)*(k:Int)).toNat]? =_
 rw [Int.mul_comm]
&getItem_tuple_rev {u sl:Addr}{items:List Value}{t:Tok}{Q:Value->Shared->Prop}(ht:IsTup s.heap u items.toArray)(hs:s.heap.IsSliceOf sl .none .none (.int (-1) t))
  (h:Q (.ref s.heap.objs.size) { s with heap:=s.heap.push { cls:=.type "tuple",data:=.seq items.reverse.toArray } })
  (hsz:items.length<=sizeLine):wpAny (model prog w) A (getItem (.ref u) (.ref sl)) Q E s:=by
 have htake:sizeOk (.seq items.reverse.toArray):=by
  show items.reverse.toArray.size<=sizeLine
  simpa using hsz
 &⟨os,hos,hcs,hds⟩:=id hs
 have hTs:s.TypeIs (.ref sl) "slice":=⟨os,hos,hcs⟩
 #,getItem
 try with_reducible &wpAny_holding ?_
 first | &wpAny_bind (wpAny_pure ?_) | skip
 &wpAny_bind (wpAny_sequenceKey ht.typeIs (by decide) ?_)
 &wpAny_bind (wpAny_callSpecial?_slot (name:=Str.ofString "__getitem__") ht.typeIs PyProof.Rows.slot_tuple_getitem
  (wpAny_call_entry PyProof.Rows.slot_tuple_getitem ht.typeIs entry_tuple_getitem ?_ (args_tuple_getitem _ _)))
 show wpAny _ _ (Builtin.Tuple.tupleItemsOf (.ref u) >>= _) _ _ s
 &wpAny_bind (tupleItemsOf_ ht ?_)
 &wpAny_bind (wpAny_typeOf hTs ?_)
 rw [if_pos (by decide)]
 &wpAny_bind (kI (n:=items.toArray.size) hs ?_)
 show wpAny _ _ (if ((((items.toArray.size:Nat):Int) - 1) == 0&&(-1:Int) == 1&&items.toArray.size == items.toArray.size)=true then _ else _) _ _ s
 rw [if_neg (by simp)]
 have e:((List.range items.toArray.size).filterMap fun(m:Nat)=>items.toArray[((((items.toArray.size:Nat):Int) - 1)+(m:Int)*(-1)).toNat]?)=items.reverse:=by
  rw [List.size_toArray];#ro items
 rw [e]
 first
  | #wpAny_bind (m:=Builtin.Tuple.tupleExact _) (wpAny_newObj_type (wpAny_pure ⟨_,rfl,wpAny_pure h⟩) htake)
  | #wpAny_bind (m:=Builtin.Tuple.tupleExact _) (wpAny_newObj_type (wpAny_bind (wpAny_pure (wpAny_pure ⟨_,rfl,wpAny_pure h⟩))) htake)
  | #wpAny_bind (wpAny_bind (m:=Builtin.Tuple.tupleExact _) (wpAny_newObj_type (wpAny_pure (wpAny_pure ⟨_,rfl,wpAny_pure h⟩)) htake))
  | #wpAny_bind (wpAny_bind (m:=Builtin.Tuple.tupleExact _) (wpAny_newObj_type (wpAny_pure ⟨_,rfl,wpAny_pure h⟩) htake))
end
end HT
namespace Tr
open PySem PySem.Spec PyProof.Rows L2
section
variable {X:Cx}{a b c:Expr}{fa fb fc:En->Rs T}{pos:Pos}
&Reps.atI {K:PySem.W.Frag}{O:Ow}{H:Hp}{l:List T}{vs:List V}{i:Int}{t:T}(r:Reps K O H l vs)(e:L2.atI l i=some t):∃ v,L2.atI vs i=some v/\Rep K O H t v:=by
 unfold L2.atI at e ⊢
 rw [r.length]at e
 cases q:ixN vs.length i with
 | none=>rw [q]at e;cases e
 | some j=>
  rw [q]at e
  &⟨v,e1,e2⟩:=r.get (i:=j) (t:=t) e
  #⟨v,e1,e2⟩
def aN (x y:T):Rs T:=match x.items,y with
 | some l,.int i=>match L2.atI l i with
  | some t=> .ok t
  | none=> .bad
 | _,_=> .bad
&q_ix (ha:b9 X a fa)(hb:b9 X b fb)(hs:jw b:=by intro _ _;rfl):b9 X (.Subscript a b pos) (o2 aN fa fb):=by
 intro pins s σ H Q I ⟨ρ,O,E,hq⟩
 have h1:=aU E hq
 &Subscript_ (bU (ha pins s σ H _ I h1) fun v s1 hh_=> ?_)
 &⟨x,H1,I1,r1,t,rt,s',E',q1⟩:=hh_
 have h2:=aU (f:=fb) E' q1
 &bU (hb pins s1 σ H1 _ I1 h2) fun u s2 hh_=> ?_
 &⟨y,H2,I2,r2,t2,rt2,s'',E'',q2⟩:=hh_
 have rt':=rt.same s''
 unfold aN at q2
 split at q2
 ·rename_i l i hl
  split at q2
  ·rename_i z hz
   have hy:=Rep.int_iff.mp rt2
   &ix_seq a b pins s2 σ H2 x y v u Q I2 r1 r2 ?_ (hs _ _)
   cases t with
   | tup m=>
    cases hl
    &⟨p,vs,e,n,q,rr⟩:=Rep.tup_iff.mp rt'
    &⟨w,ew,rw'⟩:=rr.atI hz
    #.inr (.inl ⟨p,vs,i,w,e,hy,SqT.of q,ew,q2 H2 (Same.refl H2) _ rw'⟩)
   | lst m=>
    cases hl
    &⟨p,vs,e,n,q,rr⟩:=Rep.lst_iff.mp rt'
    &⟨w,ew,rw'⟩:=rr.atI hz
    #.inl ⟨p,vs,i,w,e,hy,SqL.of q,ew,q2 H2 (Same.refl H2) _ rw'⟩
   | scr m=>
    cases hl
    unfold Rep at rt'
    &⟨p,e,n,q⟩:=rt'
    &⟨w,ew,rw'⟩:=(Reps.ints (K:=X.K) (O:=O) (H:=H2) (ns:=m)).atI hz
    #.inl ⟨p,_,i,w,e,hy,q,ew,q2 H2 (Same.refl H2) _ rw'⟩
   | _=>cases hl
  ·#q2.elim
 ·#q2.elim
def lG (l:List T)(lo hi:Option Int):List T:=(l.drop (HT.sIx l.length 0 lo)).take (HT.sIx l.length l.length hi - HT.sIx l.length 0 lo)
&Reps.cut {K:PySem.W.Frag}{O:Ow}{H:Hp}{l:List T}{vs:List V}(r:Reps K O H l vs)(lo hi:Option Int):Reps K O H (lG l lo hi) (sA vs lo hi):=by
 #,lG sA
 rw [r.length]
 #(r.drop _).take _
&v9 {l:List T}{lo hi:Option Int}(h:HT.sIx l.length 0 lo=0/\HT.sIx l.length l.length hi=l.length):lG l lo hi=l:=by
 #,lG
 rw [h.1,h.2]
 simp
&sl_tup_whole:SlR X (fun x lo hi H Q=> ∃a xs,x= .ref a/\SqT X.K H a xs/\(HT.sIx xs.length 0 lo=0/\HT.sIx xs.length xs.length hi=xs.length)/\Q (.ref a) H):=by
 intro pins s σ H x v vl vu lo hi sl Q I rx hs pl pu h
 &⟨a,xs,rfl,hx,hw,q⟩:=h
 cases rx
 &⟨its,r,ht,hz⟩:=I.tuple hx
 have hlen:its.toArray.size=xs.length:=by rw [List.size_toArray];#r.length.symm
 &⟨"tuple",_,PyProof.Rows.slot_tuple_getitem.lookup,ht.typeIs,?_⟩
 #HT.getItem_tuple_whole ht hs pl pu (by rw [hlen];#hw) ⟨.ref a,H,I,rfl,q⟩
def pN (_:En):Rs (Option Int):=.ok none
def pS (f:En->Rs T)(ρ:En):Rs (Option Int):=do
 let x <-f ρ
 match x with
 | .int i=> .ok (some i)
 | _=> .bad
def tPO (X:Cx)(f:En->Rs (Option Int)):TO:=fun σ H Q=> ∃ρ O,EnvO X.K O H ρ σ/\Post X H (f ρ) fun b H'=>Q b H'
abbrev POt (X:Cx)(e:Option Expr)(f:En->Rs (Option Int)):Prop:=PO X e (tPO X f)
&qp_none:POt X none pN:=by
 intro pins s σ H Q I ⟨ρ,O,E,hq⟩
 #po_none pins s σ H Q I (hq H (Same.refl H))
&qp_some (ha:b9 X a fa):POt X (some a) (pS fa):=by
 intro pins s σ H Q I ⟨ρ,O,E,hq⟩
 &po_some ha pins s σ H Q I ?_
 &⟨ρ1,O1,E1,h1⟩:=aU E hq
 &⟨ρ1,O1,E1,Post.mono h1 fun ts H1 s1 q vs r=> ?_⟩
 &⟨t',r',s',E',q'⟩:=q vs r
 split at q'
 ·#⟨_,Rep.int_iff.mp r',q' H1 (Same.refl H1)⟩
 ·#q'.elim
def slT (x:T)(lo hi:Option Int):Rs T:=match x with
 | .tup l=> .ok (.tup (lG l lo hi))
 | .lst l=> .ok (.lst (lG l lo hi))
 | _=> .bad
def sl (fe:En->Rs T)(fl fu:En->Rs (Option Int))(ρ:En):Rs T:=do
 let x <-fe ρ
 let l <-fl ρ
 let u <-fu ρ
 slT x l u
&qR {σ:L2.St}{H:Hp}{ρ:En}{O:Ow}{α:Type}{f:En->Rs (Option Int)}{k:Option Int->Rs α}{Q:α->Hp->Prop}(E:EnvO X.K O H ρ σ)(h:Post X H (f ρ >>= k) Q) :
  tPO X f σ H fun b H'=>Same H H'/\EnvO X.K O H' ρ σ/\Post X H' (k b) Q:=
 ⟨ρ,O,E,Post.mono h.bind fun t H' s q=>⟨s,E.same s,q⟩⟩
&q_slice {lo hi:Option Expr}{p2:Pos}{fl fu:En->Rs (Option Int)}(ha:b9 X a fa)(hl:POt X lo fl)(hu:POt X hi fu):b9 X (.Subscript a (.Slice lo hi none p2) pos) (sl fa fl fu):=by
 intro pins s σ H Q I ⟨ρ,O,E,hq⟩
 &xv (sl_tup.or (sl_tup_whole.or sl_list)) ha hl hu pins s σ H Q I ?_
 &⟨ρ1,O1,E1,h1⟩:=aU E hq
 &⟨ρ1,O1,E1,Post.mono h1 fun ts H1 s1 q vs r=> ?_⟩
 &⟨t',r',s',E',q'⟩:=q vs r
 &⟨ρ2,O2,E2,h2⟩:=qR E' q'
 &⟨ρ2,O2,E2,Post.mono h2 fun o1 H2 s2 q=> ?_⟩
 &⟨s2',E2',q2⟩:=q
 &⟨ρ3,O3,E3,h3⟩:=qR E2' q2
 &⟨ρ3,O3,E3,Post.mono h3 fun o2 H3 s3 q=> ?_⟩
 &⟨s3',E3',q3⟩:=q
 have rt:=(r'.same s2').same s3'
 unfold slT at q3
 split at q3
 ·rename_i l
  &⟨p,ws,e,n,q,rr⟩:=Rep.tup_iff.mp rt
  have hlen:=rr.length
  by_cases hw:HT.sIx ws.length 0 o1=0/\HT.sIx ws.length ws.length o2=ws.length
  ·&.inr (.inl ⟨p,ws,e,SqT.of q,hw,?_⟩)
   rw [<-hlen]at hw
   &q3 H3 (Same.refl H3) _ ?_
   rw [v9 hw]
   #Rep.tup_iff.mpr ⟨p,ws,rfl,n,q,rr⟩
  ·#.inl ⟨p,ws,e,SqT.of q,hw,fun p' hp=>q3 _ (aS hp _) _ (fY hp (E3'.fresh hp) (rr.cut o1 o2))⟩
 ·rename_i l
  &⟨p,ws,e,n,q,rr⟩:=Rep.lst_iff.mp rt
  #.inr (.inr ⟨p,ws,e,SqL.of q,fun p' hp=>q3 _ (aS hp _) _ (iG hp (E3'.fresh hp) (rr.cut o1 o2))⟩)
 ·#q3.elim
def wZ:T->Rs T
 | .tup l=> .ok (.tup l.reverse)
 | .lst l=> .ok (.lst l.reverse)
 | _=> .bad
&Reps.reverse {K:PySem.W.Frag}{O:Ow}{H:Hp}:∀ {l:List T} {vs:List V},Reps K O H l vs->Reps K O H l.reverse vs.reverse
 | [],vs,r=>by rw [Reps.nil_iff.mp r];#Reps.nil_
 | t::l,vs,r=>by
  &⟨v,us,rfl,p,q⟩:=Reps.cons_iff.mp r
  rw [List.reverse_cons,List.reverse_cons]
  #q.reverse.append (Reps.cons_ p Reps.nil_)
&q_rev {j:Nat}{p1 p2 p3:Pos}(ha:b9 X a fa):b9 X (.Subscript a (.Slice none none (some (.UnaryOp .USub (.Constant (.int 1) j p1) p2)) p3) pos) (o1 wZ fa):=by
 intro pins s σ H Q I ⟨ρ,O,E,hq⟩
 have h1:=aU E hq
 &Subscript_ (bU (ha pins s σ H _ I h1) fun v s1 hh_=> ?_)
 &⟨x,H1,I1,r1,t,rt,s',E',q1⟩:=hh_
 &wpAny_Slice ?_
 rw [evalPart_none]
 &wpAny_pure (wpAny_pure ?_)
 rw [evalPart_some]
 &bU (pe_un wz sW pins s1 σ H1 (fun w' H'=>w'= .int (-1)/\H'=H1) I1 ⟨1,rfl,rfl,rfl⟩) fun sv s2 hh_=> ?_
 &⟨w',H2,I2,r2,e1,e2⟩:=hh_
 subst e1 e2
 &⟨tk,rfl⟩:=r2
 have I4:Inv X pins σ H2 { s2 with heap:=s2.heap.push { cls:=.type "slice",data:=.fields #[.none,.none,.int (-1) tk] } }:=I2.kept (t':=s2.toks) fun b ob q=>Heap.get?_push_of_some _ q
 unfold wZ at q1
 split at q1
 ·rename_i l
  &⟨p,ws,e,n,q,rr⟩:=Rep.tup_iff.mp rt
  subst e
  cases r1
  &⟨its,r,ht,hz⟩:=I4.tuple (SqT.of q)
  have hs:Heap.IsSliceOf (s2.heap.push { cls:=.type "slice",data:=.fields #[.none,.none,.int (-1) tk] }) s2.heap.objs.size .none .none (.int (-1) tk):=Heap.IsSliceOf.new ..
  &tail_any (ops:=[.ref p,.ref s2.heap.objs.size]) ht.typeIs PyProof.Rows.slot_tuple_getitem.lookup ?_ (by with_unfolding_all rfl)
  &HT.getItem_tuple_rev ht hs ?_ (by rw [<-r.length];#hz)
  &⟨.ref _,_,I4.laid (t':=s2.toks) (o:=.tup ws.reverse) (fun b ob q=>Heap.get?_push_of_some _ q) (Nat.le_refl _) ?_,rfl,?_⟩
  ·#⟨by rw [List.length_reverse];#hz,_,r.reverse,IsTup.new _ _⟩
  ·have hn:=I4.hok.fresh (Nat.le_refl _)
   #q1 _ (aS hn _) _ (fY hn (E'.fresh hn) rr.reverse)
 ·rename_i l
  &⟨p,ws,e,n,q,rr⟩:=Rep.lst_iff.mp rt
  subst e
  cases r1
  &⟨its,r,ht,hz⟩:=I4.list (SqL.of q)
  have hs:Heap.IsSliceOf (s2.heap.push { cls:=.type "slice",data:=.fields #[.none,.none,.int (-1) tk] }) s2.heap.objs.size .none .none (.int (-1) tk):=Heap.IsSliceOf.new ..
  &tail_any (ops:=[.ref p,.ref s2.heap.objs.size]) ht.isList.typeIs slot_list_getitem.lookup ?_ (by with_unfolding_all rfl)
  &wpAny_getItem_list_slice ht.isList hs .none .none (.int (-1) tk) (by simp) ?_ (by rw [List.size_toArray,<-r.length];#hz)
  rw [HT.slicePick_rev]
  &⟨.ref _,_,I4.laid (t':=s2.toks) (o:=.lst ws.reverse) (fun b ob q=>Heap.get?_push_of_some _ q) (Nat.le_refl _) ?_,rfl,?_⟩
  ·#⟨by rw [List.length_reverse];#hz,_,0,r.reverse,Heap.get?_push_size _ rfl⟩
  ·have hn:=I4.hok.fresh (Nat.le_refl _)
   #q1 _ (aS hn _) _ (iG hn (E'.fresh hn) rr.reverse)
 ·#q1.elim
def CallT (X:Cx)(f:Value)(g:List T->Rs T):Prop:=
 ∀(pins:List (Addr×Obj)) (s:Shared) (σ:L2.St) (H:Hp) (O:Ow) (ts:List T) (vs:List V) (us:List Value) (Q:VK),Inv X pins σ H s->(∀p,H p=none->¬ O p)->Reps X.K O H ts vs->Vals vs us →
  Post X H (g ts) (fun t H'=> ∀v,Rep X.K O H' t v->Q v H')->wpAny (model X.prog X.w) X.A (call f us) (EP X pins σ Q) X.xe s
&CallT.of {f:Value}{r:List V->Hp->VK->Prop}(h:CallR X f r){g:List T->Rs T}
  (w:∀ (H:Hp) (O:Ow) (ts:List T) (vs:List V) (Q:VK),(∀p,H p=none->¬ O p)->Reps X.K O H ts vs->Post X H (g ts) (fun t H'=> ∀v,Rep X.K O H' t v->Q v H')->r vs H Q):CallT X f g:=
 fun pins s σ H O ts vs us Q I hf rs rv hp=>h pins s σ H vs us Q I rv (w H O ts vs Q hf rs hp)
def cl (g:List T->Rs T)(fs:En->Rs (List T))(ρ:En):Rs T:=fs ρ >>= g
variable {e:Expr}{es:List Expr}{fs:En->Rs (List T)}{x:Str}{p:Pos}{id:String}{g:List T->Rs T}
&q_callB (hc:CallT X (.builtin id) g)(hm:X.mg x=none)(hv:bootBuiltins x=some (.builtin id))(ha:qE X (e::es) fs)(hg:Gl X x:=by rfl)(hn:x≠ "__name__":=by decide)(hdb:(x == ("__debug__" : Str))=false:=by decide)
  (he:starEach (e::es) X.env=(false,eval e X.env)::starEach es X.env:=by rfl) (hpl:(backTo pos (starEach es X.env)).any (·.1)=false:=by rfl):b9 X (.Call (.Name x p) (e::es) [] pos) (cl g fs):=by
 intro pins s σ H Q I ⟨ρ,O,E,hq⟩
 &wpAny_Call_Name_kw (ge I hg hm hv ?_ hn hdb)
 have h1:=fS E hq
 #PyProof.Rows.callWith_builtin1 (bU (ha pos pins s σ H _ I h1) fun us s1 ⟨vs,H1,I1,r1,ts,rs,s',E',q1⟩=>hc pins s1 σ H1 O ts vs us Q I1 (fun p=>E'.fresh) rs r1 q1) he hpl
&xh {Ty:String}(hc:CallT X (.type Ty) g)(hm:X.mg x=none)(hv:bootBuiltins x=some (.type Ty))(ha:qE X (e::es) fs)(hg:Gl X x:=by rfl)(hn:x≠ "__name__":=by decide)(hdb:(x == ("__debug__" : Str))=false:=by decide)
  (he:starEach (e::es) X.env=(false,eval e X.env)::starEach es X.env:=by rfl) (hpl:(backTo pos (starEach es X.env)).any (·.1)=false:=by rfl):b9 X (.Call (.Name x p) (e::es) [] pos) (cl g fs):=by
 intro pins s σ H Q I ⟨ρ,O,E,hq⟩
 &wpAny_Call_Name_kw (ge I hg hm hv ?_ hn hdb)
 have h1:=fS E hq
 #PyProof.Rows.callWith_type1 (bU (ha pos pins s σ H _ I h1) fun us s1 ⟨vs,H1,I1,r1,ts,rs,s',E',q1⟩=>hc pins s1 σ H1 O ts vs us Q I1 (fun p=>E'.fresh) rs r1 q1) he hpl
&Reps.one {K:PySem.W.Frag}{O:Ow}{H:Hp}{t:T}{vs:List V}(r:Reps K O H [t] vs):∃ v,vs= [v]/\Rep K O H t v:=by
 &⟨v,ws,rfl,p,q⟩:=Reps.cons_iff.mp r
 cases Reps.nil_iff.mp q
 #⟨v,rfl,p⟩
&Rep.sq {K:PySem.W.Frag}{O:Ow}{H:Hp}{t:T}{v:V}{l:List T}(r:Rep K O H t v)(h:t.items=some l):∃ a vs,v= .ref a/\¬ O a/\Reps K O H l vs/\(SqL K H a vs\/SqT K H a vs):=by
 cases t with
 | tup m=>cases h;&⟨a,vs,e,n,q,z⟩:=Rep.tup_iff.mp r;#⟨a,vs,e,n,z,.inr (SqT.of q)⟩
 | lst m=>cases h;&⟨a,vs,e,n,q,z⟩:=Rep.lst_iff.mp r;#⟨a,vs,e,n,z,.inl (SqL.of q)⟩
 | scr m=>cases h;unfold Rep at r;&⟨a,e,n,q⟩:=r;#⟨a,_,e,n,Reps.ints,.inl q⟩
 | _=>cases h
def bL:List T->Rs T
 | [.str x] =>if x.length<=sizeLine then .ok (.int x.length)else .bad
 | [x] =>match x.items with
  | some l=> .ok (.int l.length)
  | none=> .bad
 | _=> .bad
&bS:CallT X (.builtin "len") bL:=CallT.of (call_len_seq.or qy) fun H O ts vs Q hf rs hp=>by
 unfold bL at hp
 split at hp
 ·&⟨v,rfl,r⟩:=rs.one
  split at hp
  ·rename_i h
   #.inr ⟨_,by rw [Rep.str_iff.mp r],h,hp H (Same.refl H) _ (Rep.int_ _)⟩
  ·#hp.elim
 ·&⟨v,rfl,r⟩:=rs.one
  split at hp
  ·rename_i l hl
   &⟨a,vs,rfl,n,z,q⟩:=r.sq hl
   #.inl ⟨a,vs,rfl,q,hp H (Same.refl H) _ (by rw [<-z.length];#Rep.int_ _)⟩
  ·#hp.elim
 ·#hp.elim
def jL:List T->Rs T
 | [.tup l] => .ok (.tup l)
 | [.lst l] => .ok (.tup l)
 | _=> .bad
&nC:CallT X (.type "tuple") jL:=CallT.of on fun H O ts vs Q hf rs hp=>by
 unfold jL at hp
 split at hp
 ·&⟨v,rfl,r⟩:=rs.one
  &⟨a,ws,rfl,n,q,z⟩:=Rep.tup_iff.mp r
  #⟨a,ws,rfl,.inr ⟨SqT.of q,hp H (Same.refl H) _ (Rep.tup_iff.mpr ⟨a,ws,rfl,n,q,z⟩)⟩⟩
 ·&⟨v,rfl,r⟩:=rs.one
  &⟨a,ws,rfl,n,q,z⟩:=Rep.lst_iff.mp r
  #⟨a,ws,rfl,.inl ⟨SqL.of q,fun l hl=>hp _ (aS hl _) _ (fY hl (hf l hl) z)⟩⟩
 ·#hp.elim
def yn:List T->Rs T
 | [.int i] => .ok (.int i)
 | [.bl k] => .ok (.int (if k then 1 else 0))
 | _=> .bad
&ct_int:CallT X (.type "int") yn:=CallT.of wc fun H O ts vs Q hf rs hp=>by
 unfold yn at hp
 split at hp
 ·&⟨v,rfl,r⟩:=rs.one
  #.inl ⟨_,by rw [Rep.int_iff.mp r],hp H (Same.refl H) _ (Rep.int_ _)⟩
 ·&⟨v,rfl,r⟩:=rs.one
  #.inr ⟨_,by rw [Rep.bl_iff.mp r],hp H (Same.refl H) _ (Rep.int_ _)⟩
 ·#hp.elim
def nI:List T->Option (List Bool)
 | [] =>some []
 | .bl k::r=>(nI r).map (k:: ·)
 | _=>none
def nN:List T->Rs T
 | [.lst l] =>match nI l with
  | some ks=> .ok (.bl (ks.all fun k=>k))
  | none=> .bad
 | _=> .bad
&nH {K:PySem.W.Frag}{O:Ow}{H:Hp}:∀ {l:List T} {ks:List Bool} {vs:List V} {us:List Value},nI l=some ks->Reps K O H l vs->Vals vs us->us=ks.map Value.bool
 | [],ks,vs,us,e,r,v=>by cases e;cases Reps.nil_iff.mp r;cases v;rfl
 | t::l,ks,vs,us,e,r,v=>by
  &⟨w,ws,rfl,p,q⟩:=Reps.cons_iff.mp r
  cases t with
  | bl k=>
   unfold nI at e
   cases z:nI l with
   | none=>rw [z]at e;cases e
   | some ks'=>
    rw [z]at e
    cases e
    cases v with
    | cons v1 v2=>
     cases Rep.bl_iff.mp p
     cases v1
     rw [nH z q v2];rfl
  | _=>cases e
&nE (hc:X.calm=true):CallT X (.builtin "all") nN:=by
 intro pins s σ H O ts vs us Q I hf rs rv hp
 unfold nN at hp
 split at hp
 ·&⟨v,rfl,r⟩:=rs.one
  split at hp
  ·rename_i ks hk
   &⟨a,ws,rfl,n,q,z⟩:=Rep.lst_iff.mp r
   &⟨u,rfl,ru⟩:=jA rv
   cases ru
   &⟨its,r',pl,hz⟩:=I.list (SqL.of q)
   have hits:=nH hk z r'
   &call_all_walk (wpAny_pyIter_list pl.isList ?_)
   have hne:a≠s.heap.objs.size:=fun e=>by
    &⟨o,ho,_⟩:=pl.isList
    rw [e]at ho
    #absurd (Heap.lt_size ho) (Nat.lt_irrefl _)
   &⟨s.heap.objs.size,_,_,_,_,_,fun i=>(ks[i]?).getD true,rfl,Walks.list (A:=X.A.in1) (I.ok.hd hc) s.heap.objs.size a hne its.toArray,⟨⟨_,Heap.get?_push_size _ rfl,rfl,rfl⟩,?_⟩,?_,?_⟩
   ·&⟨o,ho,hh⟩:=pl.isList
    #⟨o,Heap.get?_push_of_some _ ho,hh⟩
   ·intro i v s' Q' E' hP hQ'
    subst hits
    dsimp only at hQ'
    have hP':(ks.map Value.bool)[i]? =some v:=by simpa using hP
    rw [List.getElem?_map]at hP'
    cases e:ks[i]? with
    | none=>rw [e]at hP';cases hP'
    | some k=>
     rw [e]at hP' hQ'
     cases hP'
     #wpAny_truthy_bool hQ'
   ·intro h' tk hk'
    have hlen:its.toArray.size=ks.length:=by rw [hits];simp
    have e:((List.range its.toArray.size).all fun i=>(ks[i]?).getD true)=(ks.all fun k=>k):=by
     rw [hlen]
     rw [Bool.eq_iff_iff,List.all_eq_true,List.all_eq_true]
     constructor
     ·intro h x hx
      &⟨i,hi,rfl⟩:=List.getElem_of_mem hx
      have:=h i (List.mem_range.mpr hi)
      simpa [hi]using this
     ·intro h i hi
      have hi':=List.mem_range.mp hi
      have:=h ks[i] (List.getElem_mem hi')
      simpa [hi']using this
    rw [e]
    have I1:Inv X pins σ H { s with heap:=s.heap.push { cls:=.type "list_iterator",data:=.fields #[.ref a,.int 0 0] } }:=I.kept (t':=s.toks) fun b o e=>Heap.get?_push_of_some _ e
    have I2:Inv X pins σ H { s with heap:=h',toks:=tk }:=by
     have:=I1.turned (h':=h') (t':=tk) (it:=s.heap.objs.size) (fun b o hb e=>hk' b o (by simpa using hb) e) (I.hok.fresh (Nat.le_refl _))
      (Nat.ne_of_gt I.lt) (.inr I.sz) (fun x c e z=> ?_) (fun p hp z=> ?_)
     ·#this
     ·&⟨v,q⟩:=I.cell x c e
      #absurd (Nat.lt_of_lt_of_le q.lt (Nat.le_of_eq z.symm)) (Nat.lt_irrefl _)
     ·#absurd (Nat.lt_of_lt_of_le (Heap.lt_size (I.pin p hp).1) (Nat.le_of_eq z.symm)) (Nat.lt_irrefl _)
    #⟨.bl _,H,I2,rfl,hp H (Same.refl H) _ (Rep.bl_ _)⟩
  ·#hp.elim
 ·#hp.elim
end
def T.ty:T->Option String
 | .non=>some "NoneType"
 | .bl _=>some "bool"
 | .int _=>some "int"
 | .str _=>some "str"
 | .tup _=>some "tuple"
 | .lst _=>some "list"
 | .scr _=>none
 | .dct _ _=>none
def tK (i b t l s:Bool)(Ty:String):Option Bool:=match Ty with
 | "int" =>some i | "bool" =>some b | "tuple" =>some t | "list" =>some l | "str" =>some s
 | _=>none
def uP (n Ty:String):Option Bool:=match n with
 | "NoneType" =>tK false false false false false Ty
 | "bool" =>tK true true false false false Ty
 | "int" =>tK true false false false false Ty
 | "str" =>tK false false false false true Ty
 | "tuple" =>tK false false true false false Ty
 | "list" =>tK false false false true false Ty
 | _=>none
&vU (K:PySem.W.Frag){n Ty:String}{b:Bool}(h:uP n Ty=some b):PySem.W.kitOne K (.type n) (.type Ty)=some b:=by
 unfold uP at h
 split at h <;> first | (cases h;done) | (unfold tK at h;split at h <;> first | (cases h;done) | (cases h;kernel_rfl))
def nS (Ty:String)(t:T):Rs T:=match t.ty with
 | some n=>match uP n Ty with
  | some b=> .ok (.bl b)
  | none=> .bad
 | none=> .bad
&Rep.tyOf {K:PySem.W.Frag}{O:Ow}{H:Hp}{t:T}{v:V}{n:String}(r:Rep K O H t v)(h:t.ty=some n):k6 K H v (.type n):=by
 cases t with
 | non=>cases h;cases Rep.non_iff.mp r;#.non
 | bl b=>cases h;cases Rep.bl_iff.mp r;#.bl b
 | int b=>cases h;cases Rep.int_iff.mp r;#.int b
 | str b=>cases h;cases Rep.str_iff.mp r;#.str b
 | tup l=>cases h;&⟨a,vs,rfl,_,q,_⟩:=Rep.tup_iff.mp r;#.tup q
 | lst l=>cases h;&⟨a,vs,rfl,_,q,_⟩:=Rep.lst_iff.mp r;#.lst q
 | scr l=>cases h
 | dct _ _=>cases h
section
variable {X:Cx}{a b c e:Expr}{es:List Expr}{fa fb fc:En->Rs T}{fs:En->Rs (List T)}{pos p p2:Pos}{x:Str}
&fD:bootBuiltins "isinstance" =some (.builtin "isinstance"):=by decide+kernel
&q_isi {tn:Str}{Ty:String}(hm:X.mg "isinstance" =none)(hmt:X.mg tn=none)(hv:bootBuiltins tn=some (.type Ty))(ha:b9 X a fa)(hg:Gl X "isinstance":=by rfl)(hgt:Gl X tn:=by rfl)
  (hn:tn≠ "__name__":=by decide) (hd:(tn == ("__debug__" : Str))=false:=by decide)
  (he:starEach [a,.Name tn p2] X.env=(false,eval a X.env)::starEach [.Name tn p2] X.env:=by rfl) (hpl:(backTo pos (starEach [.Name tn p2] X.env)).any (·.1)=false:=by rfl)
  (hs:starEach [.Name tn p2] X.env=(false,eval (.Name tn p2) X.env)::starEach [] X.env:=by rfl) :
  b9 X (.Call (.Name "isinstance" p) [a,.Name tn p2] [] pos) (o1 (nS Ty) fa):=by
 intro pins s σ H Q I ⟨ρ,O,E,hq⟩
 &wpAny_Call_Name_kw (ge I hg hm fD ?_ (by decide) (by decide))
 have hA:PA X [a,.Name tn p2] (gp (tP X fa) (gp (tC (.ty Ty)) qS)):=bi ha (bi (uq (v:=.ty Ty) hgt hmt hv rfl hn hd) df hs) he
 &⟨ρ1,O1,E1,h1⟩:=aU E hq
 &PyProof.Rows.callWith_builtin1 (bU (hA pos pins s σ H (fun vs H'=> ∃v t,vs= [v,.ty Ty]/\Rep X.K O H' t v/\Post X H' (nS Ty t) (fun t H'=> ∀v,Rep X.K O H' t v->Q v H')) I ?_) fun us s1 ⟨vs,H1,I1,r1,v,t,e1,rt,q⟩=> ?_) he hpl
 ·&⟨ρ1,O1,E1,Post.mono h1 fun ts H1 s1 q vs r=> ?_⟩
  &⟨t',r',s',E',q'⟩:=q vs r
  #⟨vs,t',rfl,r',q'⟩
 ·subst e1
  &⟨u,w',rfl,ru,rw'⟩:=tZ r1
  cases rw'
  unfold nS at q
  split at q
  ·rename_i n hn'
   split at q
   ·rename_i bb hb
    #vS I1 ru (rt.tyOf hn') (vU _ hb) fun tk=>⟨.bl bb,H1,I1.tok _,rfl,q H1 (Same.refl H1) _ (Rep.bl_ _)⟩
   ·#q.elim
  ·#q.elim
def spP (K:PySem.W.Frag)(n:Nat)(g:List T->Rs T):Sp:=fun vs H Q _=> ∃ts O,Reps K O H ts vs/\(∀a,O a->Mtb H a)/\ts.length=n ∧
 match g ts with
 | .ok t=> ∀v H',Same H H'->Rep K O H' t v->Q v H'
 | _=>False
def RzC (P:Program)(w:World)(mg:Str->Option Value)(outer:List Env)(H:Hp)(s:Shared)(c:Str)(ev:Value)(s':Shared):Prop:=
 ∃e T C H',ev= .ref e/\mg c=some (.ref C)/\s'.os=s.os/\AllBare s'.gens/\Un (ni outer) [] H H' s.heap s'.heap/\HOk P w H' s'.heap/\Same H H'/\H' e=none/\s.heap.get? e=none/\Flt s'.heap C e (some T)/\H' T=none/\s.heap.get? T=none
def FnX (P:Program)(w:World)(K:PySem.W.Frag)(mg:Str->Option Value)(base:Heap)(k:Nat)(f:Addr)(fd:FuncData)(ps:List Str)(n:Nat)(g:List T->Rs T):Prop:=
 ∀(A:Around) (outer:List Env) (s:Shared) (H:Hp) (args:Args) (us:List Value) (vs:List V) (O:Ow) (ts:List T) (c:Str) (R:Result->Shared->Prop),Room k A->sE P w K mg base A outer s H->BindsTo s fd args (ps.zip us)->Vals vs us →
  Reps K O H ts vs->(∀a,O a->Mtb H a)->ts.length=n->g ts= .err c->(∀ev s',RzC P w mg outer H s c ev s'->R (.error ev) s')->codeAny (model P w) A (.call (.ref f) args) R s
structure zd (P:Program)(w:World)(K:PySem.W.Frag)(mg:Str->Option Value)(base:Heap)(k:Nat)(f:Addr)(fd:FuncData)(ps:List Str)(n:Nat)(g:List T->Rs T):Prop where
 h:qF P w K mg base CX0 k f fd ps (spP K n g)
 x:FnX P w K mg base k f fd ps n g
&xJ {P:Program}{w:World}{H:Hp}{h:Heap}{a:Addr}{o:HO}(x:ObjOk P w H h a o):∃ u,h.get? a=some u:=by
 cases o with
 | lst xs=>&⟨_,_,_,_,e⟩:=x;#⟨_,e⟩
 | tup xs=>&⟨_,_,_,ob,e,_⟩:=x;#⟨_,e⟩
 | dK kvs=>&⟨_,_,_,_,o,_,_,e,_⟩:=x;#⟨_,e⟩
 | dT kvs=>&⟨_,_,_,_,o,_,_,e,_⟩:=x;#⟨_,e⟩
 | set S n=>&⟨o,_,_,_,e,_⟩:=x;#⟨_,e⟩
 | ins C dx fs=>&⟨_,_,_,e,_⟩:=x;#⟨_,e⟩
 | own y=>&⟨_,e⟩:=x;#⟨_,e⟩
 | xd fs=>&⟨_,⟨_,_,_,e,_⟩,_⟩:=x;#⟨_,e⟩
 | rng lo hi=>&⟨_,_,_,e⟩:=x;#⟨_,e⟩
 | frz ob u=>&⟨e,_⟩:=x;#⟨_,e⟩
 | tbl ps=>#⟨_,(show h.get? a=some _ from x)⟩
 | met f y=>#⟨_,(show h.get? a=some _ from x)⟩
 | ext φ=>&⟨_,⟨_,e⟩,_⟩:=x;#⟨_,e⟩
&mP {X:Cx}{pins:List (Addr×Obj)}{σ:L2.St}{H:Hp}{s:Shared}(I:Inv X pins σ H s){e:Addr}(n:s.heap.get? e=none):H e=none:=by
 cases z:H e with
 | none=>rfl
 | some o=>
  &⟨o',ho'⟩:=xJ (I.hok e o z)
  rw [n]at ho';cases ho'
&jR {X:Cx}{pins:List (Addr×Obj)}{σ:L2.St}{H:Hp}{s:Shared}(I:Inv X pins σ H s)(hex:X.ex= []){e:Addr}(n:s.heap.get? e=none):X.s₀.heap.get? e=none:=by
 cases z:X.s₀.heap.get? e with
 | none=>rfl
 | some o=>
  &⟨o',ho'⟩:=I.base.there e o z (by rw [hex];simp)
  rw [n]at ho';cases ho'
&q_call {n k:Nat}{f:Addr}{fd:FuncData}{ps:List Str}{g:List T->Rs T}(F:zd X.prog X.w X.K X.mg X.base k f fd ps n g)(hr:Room k X.A)(hm:X.mg x=some (.ref f))(hk:PySem.W.keepIn X.K (.ref f)=true)(hb:Binds X.K fd ps [])(hps:ps.length=n)
  (hl:∀ ρ ts,fs ρ= .ok ts->ts.length=n) (ha:qE X (e::es) fs) (hg:Gl X x:=by rfl) (hdb:(x == ("__debug__" : Str))=false:=by decide) (he:starEach (e::es) X.env=(false,eval e X.env)::starEach es X.env:=by rfl) (hpl:(backTo pos (starEach es X.env)).any (·.1)=false:=by rfl) :
  b9 X (.Call (.Name x p) (e::es) [] pos) (cl g fs):=by
 intro pins s σ H Q I ⟨ρ,O,E,hq⟩
 have hq':Post X H (fs ρ >>= g) fun t H'=> ∀v,Rep X.K O H' t v->Q v H':=hq
 cases q:fs ρ with
 | bad=>rw [q]at hq';#hq'.elim
 | err c=>
  rw [q]at hq'
  &um (E:=E0) F.h hr hg hm hk hb .nil xE ha hdb he hpl pins s σ H Q I ⟨ρ,O,E,?_⟩
  rw [q]
  #hq'
 | ok ts=>
  rw [q]at hq'
  have hq2:Post X H (g ts) fun t H'=> ∀v,Rep X.K O H' t v->Q v H':=hq'
  cases q2:g ts with
  | bad=>rw [q2]at hq2;#hq2.elim
  | ok t=>
   rw [q2]at hq2
   &um (E:=E0) F.h hr hg hm hk hb .nil xE ha hdb he hpl pins s σ H Q I ⟨ρ,O,E,?_⟩
   rw [q]
   intro H1 s1 vs rs
   rw [List.append_nil]
   &⟨ts,O,rs,(E.same s1).mtb,hl ρ ts q,?_⟩
   rw [q2]
   #fun v H' s2 r=>hq2 H' (s1.trans s2) v r
  | err c=>
   rw [q2]at hq2
   &wpAny_Call_Name_kw (jm I hg hm ?_ hdb)
   &PySem.W.callWith_K (h₀:=X.base) I.ok.mod.kin hk (bU (ha pos pins s σ H (fun vs H'=>Same H H'/\Reps X.K O H' ts vs) I ⟨ρ,O,E,?_⟩) (fun us s1 ⟨vs,H1,I1,r,sm,rs⟩=>⟨I1.kIn,?_⟩)) he hpl
   ·rw [q];#fun H' sm vs rs=>⟨sm,rs⟩
   ·have hlen:us.length=ps.length:=by rw [<-r.length,<-rs.length,hl ρ ts q,hps]
    have hb':=hb s1 us I1.kIn (by rw [List.append_nil];#hlen)
    rw [List.append_nil]at hb'
    &wpAny_call (codeAny_mono (F.x X.A X.stack s1 H1 ⟨us,[]⟩ us vs O ts c (fun r s'=>match r with | .error ev=>X.xe ev s' | _=>False) hr I1.env0 hb' r rs (E.same sm).mtb (hl ρ ts q) q2 fun ev s' w=> ?_) fun r s' hq=> ?_)
    ·&⟨ea,T,C,H',rfl,hmc,ho,hbare,hun,hok,sm2,hea,heo,fl,hT,hTo⟩:=w
     have I2:Inv X pins σ H' s':=I1.call' ho hun hok hbare (fun b z=>absurd z (by simp))
     #hq2 pins _ _ ⟨ea,some T,C,σ,H',rfl,hmc,I2,fun b o q _=>sm2 b o (sm b o q),hea,fun hex=>jR I1 hex heo,fl,(fun t zt=>by cases zt;#⟨hT,fun hex=>jR I1 hex hTo⟩),fun pp hpp=>⟨fun zz=>(by have:=(I1.pin pp hpp).1;rw [zz,heo]at this;cases this),fun zz=>(by cases zz;have:=(I1.pin pp hpp).1;rw [hTo]at this;cases this)⟩⟩
    ·cases r with
     | error ev=>#hq
     | ok fl=>#hq.elim
def wK (X:Cx)(g:T->En->Rs En):TG:=fun v σ H Q=> ∃ρ O M t,EnvM X.K O M H ρ σ/\Rep X.K O H t v/\match g t ρ with
 | .ok ρ'=> ∀σ',EnvM X.K O M H ρ' σ'->Q σ' H
 | _=>False
abbrev PGt (X:Cx)(tg:Expr)(g:T->En->Rs En):Prop:=PG X tg (wK X g)
def tPGs (X:Cx)(g:List T->En->Rs En):TGs:=fun vs σ H Q=> ∃ρ O M ts,EnvM X.K O M H ρ σ/\Reps X.K O H ts vs/\match g ts ρ with
 | .ok ρ'=> ∀σ',EnvM X.K O M H ρ' σ'->Q σ' H
 | _=>False
abbrev za (X:Cx)(tg:List Expr)(g:List T->En->Rs En):Prop:=PGs X tg (tPGs X g)
&PG.imp {X:Cx}{e:Expr}{t t':TG}(h:PG X e t)(w:∀ v σ H Q,t' v σ H Q->t v σ H Q):PG X e t':=fun pins s σ H v u Q I r q=>h pins s σ H v u Q I r (w v σ H Q q)
&PGs.imp {X:Cx}{e:List Expr}{t t':TGs}(h:PGs X e t)(w:∀ v σ H Q,t' v σ H Q->t v σ H Q):PGs X e t':=fun pins s σ H v u Q I r q=>h pins s σ H v u Q I r (w v σ H Q q)
def gN (i:Nat)(t:T)(ρ:En):Rs En:=if i<ρ.length then .ok (ρ.set i (.va t))else .bad
&EnvM.set {K:PySem.W.Frag}{O:Ow}{M:Mn}{H:Hp}{ρ:En}{σ:L2.St}{i:Nat}{t:T}{v:V}(E:EnvM K O M H ρ σ)(hi:i<ρ.length)(r:Rep K O H t v):EnvM K O M H (ρ.set i (.va t)) (σ.set i (some v)) where
 len:=by rw [List.length_set,List.length_set];#E.len
 val:=fun j u e=>by
  by_cases hj:i=j
  ·subst hj
   rw [List.getElem?_set_self hi]at e
   cases e
   #⟨v,List.getElem?_set_self (by rw [<-E.len];#hi),r⟩
  ·rw [List.getElem?_set_ne hj]at e
   &⟨w,e1,e2⟩:=E.val j u e
   #⟨w,by rw [List.getElem?_set_ne hj];#e1,e2⟩
 own:=fun j o e=>by
  by_cases hj:i=j
  ·subst hj
   rw [List.getElem?_set_self hi]at e
   cases e
  ·rw [List.getElem?_set_ne hj]at e
   &⟨w,e1,e2⟩:=E.own j o e
   #⟨w,by rw [List.getElem?_set_ne hj];#e1,e2⟩
 sub:=E.sub
 dis:=E.dis
 trk:=E.trk
&qg_name (i:Nat)(hN:X.N.Nodup)(hi:X.N[i]? =some x:=by rfl)(hx:Loc X.env.scope x:=by first | #Or.inl rfl | #Or.inr rfl)(hf:X.fn x=true\/X.env.scope.names.lookup x=some .local:=by first | #.inl rfl | #.inr rfl | assumption):PGt X (.Name x pos) (gN i):=
 PG.imp (pg_name hN hi hx hf) fun v σ H Q hh_=>by
  &⟨ρ,O,M,t,E,r,h⟩:=hh_
  unfold gN at h
  split at h
  ·rename_i ρ' e
   split at e
   ·rename_i hl
    cases e
    #h _ (E.set hl r)
   ·cases e
  ·#h.elim
def lm (ts:List T)(ρ:En):Rs En:=match ts with
 | [] => .ok ρ
 | _=> .bad
def dO (g:T->En->Rs En)(gs:List T->En->Rs En)(ts:List T)(ρ:En):Rs En:=match ts with
 | t::r=>do
  let ρ1 <-g t ρ
  gs r ρ1
 | [] => .bad
&qgs_nil:za X [] lm:=PGs.imp pgs_nil fun vs σ H Q hh_=>by
 &⟨ρ,O,M,ts,E,r,h⟩:=hh_
 unfold lm at h
 cases ts with
 | nil=>#⟨Reps.nil_iff.mp r,h σ E⟩
 | cons _ _=>#h.elim
&xf {g:T->En->Rs En}{gs:List T->En->Rs En}(h1:PGt X e g)(h2:za X es gs)
  (hs:(assignEach (e::es) X.env).map (·.2)=assign e X.env::(assignEach es X.env).map (·.2):=by rfl):za X (e::es) (dO g gs):=
 PGs.imp (xt h1 h2 hs) fun vs σ H Q hh_=>by
  &⟨ρ,O,M,ts,E,r,h⟩:=hh_
  cases ts with
  | nil=>#h.elim
  | cons t ts=>
   &⟨v,ws,rfl,p,q⟩:=Reps.cons_iff.mp r
   &⟨v,ws,rfl,ρ,O,M,t,E,p,?_⟩
   unfold dO at h
   cases e1:g t ρ with
   | bad=>simp [e1]at h
   | err c=>simp [e1]at h
   | ok ρ1=>
    intro σ1 E1
    &⟨ρ1,O,M,ts,E1,q,?_⟩
    simp only [e1,aD]at h
    cases e2:gs ts ρ1 with
    | bad=>simp [e2]at h
    | err c=>simp [e2]at h
    | ok ρ2=>
     simp only [e2]at h
     #fun σ2 E2=>h σ2 E2
def gT (n:Nat)(gs:List T->En->Rs En)(t:T)(ρ:En):Rs En:=match t with
 | .tup l=>if l.length=n then gs l ρ else .bad
 | _=> .bad
&qg_tup {k n:Nat}{gs:List T->En->Rs En}(hc:X.calm=true)(h:za X es gs)(hn:(assignEach es X.env).length=n:=by rfl)(hst:(assignEach es X.env).findIdx? (·.1)=none:=by rfl):PGt X (.Tuple es k pos) (gT n gs):=
 PG.imp (pg_tup hc h hn hst) fun v σ H Q hh_=>by
  &⟨ρ,O,M,t,E,r,h⟩:=hh_
  unfold gT at h
  cases t with
  | tup l=>
   &⟨a,vs,rfl,n',q,z⟩:=Rep.tup_iff.mp r
   by_cases hl:l.length=n
   ·simp only [if_pos hl]at h
    #⟨a,vs,rfl,SqT.of q,by rw [<-z.length];#hl,ρ,O,M,l,E,z,h⟩
   ·simp only [if_neg hl]at h
  | _=>#h.elim
&SqL.nn {K:PySem.W.Frag}{H:Hp}{a:Addr}{vs:List V}(q:SqL K H a vs):¬ Nw K H a:=fun⟨h1,h2⟩=>by
 rcases q with(q | ⟨o,q⟩) | ⟨o,_,_,q,_⟩
 ·rw [h1]at q;cases q
 ·rw [h1]at q;cases q
 ·rw [h2]at q;cases q
mutual
theorem Rep.more {K:PySem.W.Frag}{O O':Ow}{H:Hp}(sub:∀ a,O' a->O a\/Nw K H a):∀ {t:T} {v:V},Rep K O H t v->Rep K O' H t v
 | .non,_,r=>by unfold Rep at r ⊢;#r
 | .bl _,_,r=>by unfold Rep at r ⊢;#r
 | .int _,_,r=>by unfold Rep at r ⊢;#r
 | .str _,_,r=>by unfold Rep at r ⊢;#r
 | .tup l,_,r=>by
  unfold Rep at r ⊢
  &⟨a,vs,e,n,q,z⟩:=r
  #⟨a,vs,e,fun p=>(sub a p).elim n fun w=>(by rw [w.1]at q;cases q),q,Reps.more sub z⟩
 | .lst l,_,r=>by
  unfold Rep at r ⊢
  &⟨a,vs,e,n,q,z⟩:=r
  #⟨a,vs,e,fun p=>(sub a p).elim n fun w=>(by rw [w.1]at q;cases q),q,Reps.more sub z⟩
 | .scr l,_,r=>by
  unfold Rep at r ⊢
  &⟨a,e,n,q⟩:=r
  #⟨a,e,fun p=>(sub a p).elim n fun w=>Tr.SqL.nn q w,q⟩
 | .dct ks ts,_,r=>by
  unfold Rep at r ⊢
  &⟨a,kvs,e,n,q,k,z⟩:=r
  #⟨a,kvs,e,fun p=>(sub a p).elim n fun w=>(by rw [w.1]at q;cases q),q,k,Reps.more sub z⟩
theorem Reps.more {K:PySem.W.Frag}{O O':Ow}{H:Hp}(sub:∀ a,O' a->O a\/Nw K H a):∀ {l:List T} {vs:List V},Reps K O H l vs->Reps K O' H l vs
 | [],_,r=>by unfold Reps at r ⊢;#r
 | t::l,_,r=>by
  unfold Reps at r ⊢
  &⟨v,ws,e,p,q⟩:=r
  #⟨v,ws,e,Rep.more sub p,Reps.more sub q⟩
end
&Rep.move {K:PySem.W.Frag}{O O' P:Ow}{H H':Hp}{t:T}{v:V}(hP:∀ a,P a->O a\/Nw K H a)(hO:∀ a,O' a->O a\/Nw K H a)(h:SameO P H H')(r:Rep K O H t v):Rep K O' H' t v:=
 Rep.less (O:=fun a=>O' a\/P a) (fun _ z=> .inl z) (Rep.keep h (fun _ z=> .inr z) (Rep.more (fun a z=>z.elim (hO a) (hP a)) r))
&Reps.move {K:PySem.W.Frag}{O O' P:Ow}{H H':Hp}{t:List T}{v:List V}(hP:∀ a,P a->O a\/Nw K H a)(hO:∀ a,O' a->O a\/Nw K H a)(h:SameO P H H')(r:Reps K O H t v):Reps K O' H' t v:=
 Reps.less (O:=fun a=>O' a\/P a) (fun _ z=> .inl z) (Reps.keep h (fun _ z=> .inr z) (Reps.more (fun a z=>z.elim (hO a) (hP a)) r))
def ItT (K:PySem.W.Frag)(O:Ow)(H:Hp)(ts:List T)(J:It):Prop:=∀ (P O':Ow),(∀a,P a->O a\/Nw K H a)->(∀a,O' a->O a\/Nw K H a)->∀ (i:Nat) (Hc:Hp),SameO P H Hc->(∀a,O' a->∃ o,Hc a=some o) →
 (ts.length<=i->J.stop i Hc)/\(∀t,ts[i]? =some t->J.go i Hc/\∀ x Hc',J.yld i Hc x Hc'->Same Hc Hc'/\Rep K O' Hc' t x)
def tPI (X:Cx)(f:En->Rs (List T)):TI:=fun σ H R=> ∃ρ O,EnvO X.K O H ρ σ/\Post X H (f ρ) fun ts H'=> ∀J,ItT X.K O H' ts J->R J H'
abbrev wq (X:Cx)(tg iter:Expr)(f:En->Rs (List T)):Prop:=PI X tg iter (tPI X f)
&PI.imp {tg iter:Expr}{t t':TI}(h:PI X tg iter t)(w:∀ σ H R,t' σ H R->t σ H R):PI X tg iter t':=fun pins s σ H R I q=>h pins s σ H R I (w σ H R q)
def iL (f:En->Rs T)(ρ:En):Rs (List T):=do
 let x <-f ρ
 match x with
 | .lst l=> .ok l
 | _=> .bad
def iT (f:En->Rs T)(ρ:En):Rs (List T):=do
 let x <-f ρ
 match x with
 | .tup l=> .ok l
 | _=> .bad
&ug {tg:Expr}(ha:b9 X a fa):wq X tg a (iL fa):=PI.imp (pi_list ha) fun σ H R hh_=>by
 &⟨ρ,O,E,h⟩:=hh_
 &⟨ρ1,O1,E1,h1⟩:=aU E h
 &⟨ρ1,O1,E1,Post.mono h1 fun ts H1 s1 q vs r=> ?_⟩
 &⟨t',r',s',E',q'⟩:=q vs r
 split at q'
 ·rename_i l
  &⟨a,ws,rfl,n,q,z⟩:=Rep.lst_iff.mp r'
  &⟨a,rfl,⟨ws,SqL.of q⟩,q' H1 (Same.refl H1) _ fun P O' hP hO i Hc hs ht=> ?_⟩
  have hnP:¬ P a:=fun z=>(hP a z).elim n fun w=>by rw [w.1]at q;cases q
  &⟨fun hi=>⟨ws,SqL.of (hs _ _ q hnP),by rw [<-z.length];#hi⟩,fun t ht'=> ?_⟩
  &⟨v,e1,e2⟩:=z.get ht'
  &⟨⟨ws,v,SqL.of (hs _ _ q hnP),e1⟩,fun x Hc' y=> ?_⟩
  &⟨e,y⟩:=y
  subst e
  have:=y ws (SqL.of (hs _ _ q hnP))
  rw [e1]at this;cases this
  #⟨Same.refl _,e2.move hP hO hs⟩
 ·#q'.elim
&qi_tup {tg:Expr}(ha:b9 X a fa):wq X tg a (iT fa):=PI.imp (pi_tup ha) fun σ H R hh_=>by
 &⟨ρ,O,E,h⟩:=hh_
 &⟨ρ1,O1,E1,h1⟩:=aU E h
 &⟨ρ1,O1,E1,Post.mono h1 fun ts H1 s1 q vs r=> ?_⟩
 &⟨t',r',s',E',q'⟩:=q vs r
 split at q'
 ·rename_i l
  &⟨a,ws,rfl,n,q,z⟩:=Rep.tup_iff.mp r'
  &⟨a,rfl,⟨ws,SqT.of q⟩,q' H1 (Same.refl H1) _ fun P O' hP hO i Hc hs ht=> ?_⟩
  have hnP:¬ P a:=fun z=>(hP a z).elim n fun w=>by rw [w.1]at q;cases q
  &⟨fun hi=>⟨ws,SqT.of (hs _ _ q hnP),by rw [<-z.length];#hi⟩,fun t ht'=> ?_⟩
  &⟨v,e1,e2⟩:=z.get ht'
  &⟨⟨ws,v,SqT.of (hs _ _ q hnP),e1⟩,fun x Hc' y=> ?_⟩
  &⟨e,y⟩:=y
  subst e
  have:=y ws (SqT.of (hs _ _ q hnP))
  rw [e1]at this;cases this
  #⟨Same.refl _,e2.move hP hO hs⟩
 ·#q'.elim
def rng (lo hi:Int):List T:=(List.range (hi - lo).toNat).map fun(k:Nat)=>T.int (lo+(k:Int))
def tJ (i:Int):Bool:=decide (-(2 ^ 62)<=i)&&decide (i<2 ^ 62)
def iR (f:En->Rs (List T))(ρ:En):Rs (List T):=do
 let x <-f ρ
 match x with
 | [.int j] =>if tJ j then .ok (rng 0 j)else .bad
 | [.int i,.int j] =>if tJ i&&tJ j then .ok (rng i j)else .bad
 | _=> .bad
&jq {i:Int}(h:tJ i=true) : -(2 ^ 62)<=i/\i<2 ^ 62:=by
 unfold tJ at h
 rw [Bool.and_eq_true]at h
 #⟨of_decide_eq_true h.1,of_decide_eq_true h.2⟩
&lN {K:PySem.W.Frag}{O:Ow}{H:Hp}(lo hi:Int):ItT K O H (rng lo hi) (Itr lo (hi - lo).toNat):=fun P O' hP hO i Hc hs ht=>by
 &⟨fun h=> ?_,fun t h=> ?_⟩
 ·show(hi - lo).toNat<=i
  unfold rng at h
  rw [List.length_map,List.length_range]at h
  #h
 ·unfold rng at h
  rw [List.getElem?_map]at h
  by_cases hi':i<(hi - lo).toNat
  ·rw [List.getElem?_range hi']at h
   cases h
   &⟨hi',fun x Hc' y=> ?_⟩
   &⟨e,y⟩:=y
   subst e y
   #⟨Same.refl _,Rep.int_ _⟩
  ·rw [List.getElem?_eq_none (by simpa using hi')]at h
   cases h
&vq {tg:Expr}(hm:X.mg "range" =none)(ha:qE X [a] fs)(hg:Gl X "range":=by rfl)(hs:starEach [a] X.env= [(false,eval a X.env)]:=by rfl):wq X tg (.Call (.Name "range" p) [a] [] pos) (iR fs):=by
 intro pins s σ H R I ⟨ρ,O,E,h⟩
 have h1:=fS E h
 &Call_ (ge I hg hm boot_range (PyProof.Rows.callWith_type1 (bU (ha pos pins s σ H _ I h1) fun us s1 ⟨vs,H1,I1,r1,ts,rs,s',E',q1⟩=> ?_) hs rfl))
 split at q1
 ·&⟨v,rfl,r⟩:=rs.one
  split at q1
  ·rename_i j hj
   &⟨b1,b2⟩:=jq hj
   cases Rep.int_iff.mp r
   cases r1 with
   | cons r rr=>
    cases rr
    &⟨t,rfl⟩:=r
    #call_range_1 (ke I1 (by omega) (by omega) b1 b2 (q1 H1 (Same.refl H1) _ (lN 0 j)))
  ·#q1.elim
 ·&⟨v,ws,rfl,p1,q⟩:=Reps.cons_iff.mp rs
  &⟨v2,rfl,r⟩:=q.one
  split at q1
  ·rename_i i j hj
   rw [Bool.and_eq_true]at hj
   &⟨b1,b2⟩:=jq hj.1
   &⟨b3,b4⟩:=jq hj.2
   cases Rep.int_iff.mp p1
   cases Rep.int_iff.mp r
   cases r1 with
   | cons r rr=>
    cases rr with
    | cons r' rr=>
     cases rr
     &⟨t,rfl⟩:=r
     &⟨t',rfl⟩:=r'
     #call_range_2 (ke I1 b1 b2 b3 b4 (q1 H1 (Same.refl H1) _ (lN i j)))
  ·#q1.elim
 ·#q1.elim
&vp {tg:Expr}(hm:X.mg "range" =none)(ha:qE X [a,b] fs)(hg:Gl X "range":=by rfl)(hs:starEach [a,b] X.env= [(false,eval a X.env),(false,eval b X.env)]:=by rfl)(hs2:starEach [b] X.env= [(false,eval b X.env)]:=by rfl) :
  wq X tg (.Call (.Name "range" p) [a,b] [] pos) (iR fs):=by
 intro pins s σ H R I ⟨ρ,O,E,h⟩
 have h1:=fS E h
 &Call_ (ge I hg hm boot_range (PyProof.Rows.callWith_type1 (bU (ha pos pins s σ H _ I h1) fun us s1 ⟨vs,H1,I1,r1,ts,rs,s',E',q1⟩=> ?_) (by rw [hs,hs2]) (by rw [hs2];rfl)))
 split at q1
 ·&⟨v,rfl,r⟩:=rs.one
  split at q1
  ·rename_i j hj
   &⟨b1,b2⟩:=jq hj
   cases Rep.int_iff.mp r
   cases r1 with
   | cons r rr=>
    cases rr
    &⟨t,rfl⟩:=r
    #call_range_1 (ke I1 (by omega) (by omega) b1 b2 (q1 H1 (Same.refl H1) _ (lN 0 j)))
  ·#q1.elim
 ·&⟨v,ws,rfl,p1,q⟩:=Reps.cons_iff.mp rs
  &⟨v2,rfl,r⟩:=q.one
  split at q1
  ·rename_i i j hj
   rw [Bool.and_eq_true]at hj
   &⟨b1,b2⟩:=jq hj.1
   &⟨b3,b4⟩:=jq hj.2
   cases Rep.int_iff.mp p1
   cases Rep.int_iff.mp r
   cases r1 with
   | cons r rr=>
    cases rr with
    | cons r' rr=>
     cases rr
     &⟨t,rfl⟩:=r
     &⟨t',rfl⟩:=r'
     #call_range_2 (ke I1 b1 b2 b3 b4 (q1 H1 (Same.refl H1) _ (lN i j)))
  ·#q1.elim
 ·#q1.elim
end
section
variable {X:Cx}{a b c e:Expr}{es:List Expr}{fa fb fc:En->Rs T}{fs:En->Rs (List T)}{pos p p2:Pos}{x:Str}
def bz (src:List (Option Nat))(ρ:En):En:=src.map fun o=>match o with
 | some i=>match ρ[i]? with
  | some (.va t)=> .va t
  | _=> .em
 | none=> .em
def cW (tgt:T->En->Rs En)(fc:En->Rs Bool)(fe:En->Rs T):List T->En->Rs (List T)
 | [],_=> .ok []
 | t::r,ρ=>do
  let ρ1 <-tgt t ρ
  let k <-fc ρ1
  if k then do
   let y <-fe ρ1
   let ys <-cW tgt fc fe r ρ1
   .ok (y::ys)
  else cW tgt fc fe r ρ1
def dv (fi:En->Rs (List T))(src:List (Option Nat))(tgt:T->En->Rs En)(fc:En->Rs Bool)(fe:En->Rs T)(ρ:En):Rs T:=do
 let ts <-fi ρ
 if ts.length<=sizeLine then match cW tgt fc fe ts (bz src ρ)with
  | .ok ys=> .ok (.lst ys)
  | _=> .bad
 else .bad
def bT (_:En):Rs Bool:=.ok true
def tP0 (K:PySem.W.Frag)(f:En->Rs T):TE:=fun σ H Q=> ∃ρ O,EnvO K O H ρ σ/\match f ρ with
 | .ok t=> ∀H',Same H H'->∀ v,Rep K O H' t v->Q v H'
 | _=>False
def tPT0 (K:PySem.W.Frag)(f:En->Rs Bool):TT:=fun σ H Q=> ∃ρ O,EnvO K O H ρ σ/\match f ρ with
 | .ok t=> ∀H',Same H H'->Q t H'
 | _=>False
&tP0.up {f:En->Rs T}{σ:L2.St}{H:Hp}{Q:VK}(h:tP0 X.K f σ H Q):tP X f σ H Q:=by
 &⟨ρ,O,E,h⟩:=h
 &⟨ρ,O,E,?_⟩
 cases q:f ρ with
 | ok t=>rw [q]at h;#h
 | err c=>rw [q]at h;#h.elim
 | bad=>rw [q]at h;#h.elim
&tPT0.up {f:En->Rs Bool}{σ:L2.St}{H:Hp}{Q:Bool->Hp->Prop}(h:tPT0 X.K f σ H Q):wJ X f σ H Q:=by
 &⟨ρ,O,E,h⟩:=h
 &⟨ρ,O,E,?_⟩
 cases q:f ρ with
 | ok t=>rw [q]at h;#h
 | err c=>rw [q]at h;#h.elim
 | bad=>rw [q]at h;#h.elim
&qif_nil:wr X [] (wJ X bT):=fun pins s σ H Q I ⟨ρ,O,E,h⟩=>pQ pins s σ H Q I (h H (Same.refl H))
&qif_one {f:En->Rs Bool}(h:sC X c f):wr X [c] (wJ X f):=pif_one h
abbrev noM:Mn:=fun _ _=>False
&vN {src:List (Option Nat)}{ρ:En}{j:Nat}{o:OT}(e:(bz src ρ)[j]? =some (.ow o)):False:=by
 unfold bz at e
 rw [List.getElem?_map]at e
 cases q:src[j]? with
 | none=>rw [q]at e;cases e
 | some o'=>
  rw [q]at e
  cases o' with
  | none=>cases e
  | some i=>
   have e':(match ρ[i]? with | some (Sl.va t)=>Sl.va t | _=>Sl.em)=Sl.ow o:=Option.some.inj e
   split at e' <;> cases e'
&rR {K:PySem.W.Frag}{O:Ow}{H:Hp}{ρ:En}{σ:L2.St}(E:EnvO K O H ρ σ)(src:List (Option Nat)):EnvM K O noM H (bz src ρ) (fK src σ) where
 len:=by #,bz fK;rw [List.length_map,List.length_map]
 val:=fun j t e=>by
  unfold bz at e
  #,fK
  rw [List.getElem?_map]at e ⊢
  cases q:src[j]? with
  | none=>rw [q]at e;cases e
  | some o=>
   rw [q]at e
   cases o with
   | none=>cases e
   | some i=>
    have e':(match ρ[i]? with | some (Sl.va t)=>Sl.va t | _=>Sl.em)=Sl.va t:=Option.some.inj e
    cases q2:ρ[i]? with
    | none=>rw [q2]at e';cases e'
    | some z=>
     rw [q2]at e'
     cases z with
     | em=>cases e'
     | ow l=>cases e'
     | va t'=>
      cases e'
      &⟨v,e1,e2⟩:=E.val i _ q2
      #⟨v,by simp [e1],e2⟩
 own:=fun j o e=>(vN e).elim
 sub:=fun _ _ z=>z.elim
 dis:=fun _ _ _ z=>z.elim
 trk:=E.mtb
&ORep.no {K:PySem.W.Frag}{O:Ow}{H:Hp}{o:OT}{v:V}(r:ORep K O wn H o v):False:=by
 cases o with
 | lst l=>&⟨a,_,_,e,_⟩:=r;#(e a).mpr rfl
 | dct ks ts=>&⟨a,_,_,e,_⟩:=r;#(e a).mpr rfl
 | dd ks rows=>&⟨a,_,_,_,e,_⟩:=r;#(e a).mpr (.inl rfl)
&EnvM.move {K:PySem.W.Frag}{O O' P:Ow}{H H':Hp}{ρ:En}{σ:L2.St}(E:EnvM K O noM H ρ σ)(hP:∀ a,P a->O a\/Nw K H a)(hO:∀ a,O' a->O a\/Nw K H a)(h:SameO P H H')(trk:∀ a,O' a->Mtb H' a):EnvM K O' noM H' ρ σ where
 len:=E.len
 val:=fun i t e=>let ⟨v,e1,e2⟩:=E.val i t e;⟨v,e1,e2.move hP hO h⟩
 own:=fun i o e=>let ⟨_,_,r⟩:=E.own i o e;r.no.elim
 sub:=fun _ _ z=>z.elim
 dis:=fun _ _ _ z=>z.elim
 trk:=trk
def lcV (fi:En->Rs (List T))(src:List (Option Nat))(tgt:T->En->Rs En)(fc:En->Rs Bool)(fe:En->Rs T)(ρ:En):Rs (List T):=fi ρ >>= fun ts=>if ts.length<=sizeLine then(match cW tgt fc fe ts (bz src ρ)with | .ok ys=>Rs.ok ys | _=> .bad)else .bad
&x5 {src:List (Option Nat)}{fi:En->Rs (List T)}{tgt:T->En->Rs En}{fc:En->Rs Bool}{fe:En->Rs T}{ρ:En}:dv fi src tgt fc fe ρ=lcV fi src tgt fc fe ρ >>= fun l=> .ok (.lst l):=by
 #,dv lcV
 cases fi ρ with
 | bad=>rfl
 | err c=>rfl
 | ok ts=>
  rw [aD,aD]
  by_cases hz:ts.length<=sizeLine
  ·rw [if_pos hz,if_pos hz]
   cases cW tgt fc fe ts (bz src ρ) <;> rfl
  ·rw [if_neg hz,if_neg hz];rfl
&xZ {src:List (Option Nat)}{fi:En->Rs (List T)}{tgt:T->En->Rs En}{fc:En->Rs Bool}{fe:En->Rs T}{σ:L2.St}{H:Hp}{Q:VK}{ρ:En}{O:Ow}(E:EnvO X.K O H ρ σ)
  (hq1:Post X H (lcV fi src tgt fc fe ρ) fun all H1=> ∀D ys H',Nw X.K H1 D->Same H1 H'->H' D=some (.lst ys)->Reps X.K (fun a=>O a\/a=D) H' all ys->Q (.ref D) H'):tLc X.K (tPI X fi) src (wK X tgt) (tPT0 X.K fc) (tP0 X.K fe) σ H Q:=by
 unfold lcV at hq1
 &⟨ρ,O,E,Post.mono hq1.bind fun ts H1 s1 q1 J hJ D hD hK=> ?_⟩
 have E1:=E.same s1
 by_cases hz:ts.length<=sizeLine
 ·rw [if_pos hz]at q1
  cases hall:cW tgt fc fe ts (bz src ρ)with
  | bad=>rw [hall]at q1;#q1.elim
  | err c=>rw [hall]at q1;#q1.elim
  | ok all=>
   rw [hall]at q1
   have q2:∀ D ys H',Nw X.K H1 D->Same H1 H'->H' D=some (.lst ys)->Reps X.K (fun a=>O a\/a=D) H' all ys->Q (.ref D) H':=q1 H1 (Same.refl H1)
   have nD:Nw X.K H1 D:=⟨hD,hK⟩
   let O':Ow:=fun a=>O a\/a=D
   have subO:∀ a,O' a->O a\/Nw X.K H1 a:=fun a z=>z.elim .inl fun w=> .inr (w▸nD)
   -- the walk's word
   &⟨fun i m σ' ys H'=>m=ts.length - i/\i<=ts.length/\ys.length<=i/\H' D=some (.lst ys)/\SameO (fun a=>a=D) (upd H1 D (.lst [])) H' ∧
    ∃ρ' yts zs,EnvM X.K O' noM H' ρ' σ'/\Reps X.K O' H' yts ys/\cW tgt fc fe (ts.drop i) ρ'= .ok zs/\yts++zs=all,⟨ts.length,?_⟩,?_⟩
   ·have sN:Same H1 (upd H1 D (.lst [])):=aS hD _
    &⟨by omega,Nat.zero_le _,Nat.le_refl _,aG,fun b o e _=>e,bz src ρ,[],all,?_,Reps.nil_,by simpa using hall,rfl⟩
    have E2:EnvM X.K O noM H1 (bz src ρ) (fK src σ):=rR E1 src
    #E2.move (P:=fun a=>a=D) (fun a z=> .inr (z▸nD)) subO (fun b o e _=>sN b o e) fun a z=>by
     rcases z with z | z
     ·#(E1.mtb a z).same sN
     ·rw [z];#.inl ⟨_,aG⟩
   ·rintro i m σ' ys H' ⟨rfl,hi',hyl,hDl,hsm,ρ',yts,zs,E',ry,hl,hyz⟩
    &⟨hDl,?_⟩
    have sm1:SameO (fun a=>a=D) H1 H':=fun b o e nb=>hsm b o (by rw [aF nb];#e) nb
    have it:=hJ (fun a=>a=D) O' (fun a z=> .inr (z▸nD)) subO i H' sm1 (fun a z=>(E'.trk a z).some)
    by_cases hlt:i<ts.length
    ·&.inr ?_
     have hti:ts[i]? =some ts[i]:=by simp
     &⟨go,yl⟩:=it.2 ts[i] hti
     &⟨go,by omega,fun xx Hc y=> ?_⟩
     &⟨sc,rx⟩:=yl xx Hc y
     have Ec:=E'.same sc
     rw [List.drop_eq_getElem_cons hlt]at hl
     unfold cW at hl
     &⟨ρ',O',noM,ts[i],Ec,rx,?_⟩
     cases e1:tgt ts[i] ρ' with
     | bad=>rw [e1]at hl;cases hl
     | err cc=>rw [e1]at hl;cases hl
     | ok ρ1=>
      rw [e1,aD]at hl
      intro σ1 Eg
      &⟨ρ1,O',⟨noM,Eg⟩,?_⟩
      cases e2:fc ρ1 with
      | bad=>rw [e2]at hl;cases hl
      | err cc=>rw [e2]at hl;cases hl
      | ok k=>
       rw [e2,aD]at hl
       intro H3 s3
       have E3:=Eg.same s3
       have tot:Same H' H3:=sc.trans s3
       have D3:H3 D=some (.lst ys):=tot _ _ hDl
       have sm3:SameO (fun a=>a=D) (upd H1 D (.lst [])) H3:=fun b o e nb=>tot _ _ (hsm b o e nb)
       cases k with
       | false=>
        &L2.iteF ?_
        have hl':cW tgt fc fe (ts.drop (i+1)) ρ1= .ok zs:=by simpa using hl
        #⟨ts.length - (i+1),by omega,rfl,hlt,by omega,D3,sm3,ρ1,yts,zs,E3,ry.same tot,hl',hyz⟩
       | true=>
        &L2.iteT ?_
        have hl':(fe ρ1 >>= fun y=>cW tgt fc fe (ts.drop (i+1)) ρ1 >>= fun ys=>Rs.ok (y::ys))= .ok zs:=by simpa using hl
        &⟨ρ1,O',⟨noM,E3⟩,?_⟩
        cases e3:fe ρ1 with
        | bad=>rw [e3]at hl';cases hl'
        | err cc=>rw [e3]at hl';cases hl'
        | ok yt=>
         rw [e3,aD]at hl'
         cases e4:cW tgt fc fe (ts.drop (i+1)) ρ1 with
         | bad=>rw [e4]at hl';cases hl'
         | err cc=>rw [e4]at hl';cases hl'
         | ok zs'=>
          rw [e4,aD]at hl'
          have hzs:yt::zs'=zs:=by injection hl'
          intro H4 s4 v rv
          have D4:H4 D=some (.lst ys):=s4 _ _ D3
          have E4:=E3.same s4
          have tot4:Same H' H4:=tot.trans s4
          have smD:SameO (fun a=>a=D) H4 (upd H4 D (.lst (ys++ [v]))):=fun b o e nb=>by rw [aF nb];#e
          have inO:∀ a,a=D->O' a\/Nw X.K H4 a:=fun a z=> .inl (.inr z)
          &⟨D4,ts.length - (i+1),by omega,rfl,hlt,?_,aG,fun b o e nb=>smD b o (s4 _ _ (sm3 b o e nb)) nb,ρ1,yts++ [yt],zs',?_,?_,e4,?_⟩
          ·rw [List.length_append,List.length_singleton];omega
          ·#E4.move inO (fun a z=> .inl z) smD fun aa z=>by
            by_cases hz:aa=D
            ·rw [hz];#.inl ⟨_,aG⟩
            ·#,Mtb;rw [aF hz];#E4.trk aa z
          ·have r1:Reps X.K O' H4 (yts++ [yt]) (ys++ [v]):=(ry.same tot4).append (Reps.cons_ rv Reps.nil_)
           #r1.move inO (fun a z=> .inl z) smD
          ·rw [List.append_assoc,List.singleton_append,hzs];#hyz
    ·&.inl ⟨it.1 (by omega),?_⟩
     have hi2:i=ts.length:=by omega
     subst hi2
     rw [List.drop_length]at hl
     have hzs:zs= []:=by unfold cW at hl;injection hl with hl;#hl.symm
     subst hzs
     rw [List.append_nil]at hyz
     subst hyz
     have sF:Same H1 H':=fun b o e=>sm1 b o e fun z=>by rw [z,hD]at e;cases e
     #q2 D ys H' nD sF hDl ry
 ·rw [if_neg hz]at q1
  #q1.elim
&uG {src:List (Option Nat)}{fi:En->Rs (List T)}{tgt:T->En->Rs En}{fc:En->Rs Bool}{fe:En->Rs T}{σ:L2.St}{H:Hp}{Q:VK}(h0:tP X (dv fi src tgt fc fe) σ H Q):tLc X.K (tPI X fi) src (wK X tgt) (tPT0 X.K fc) (tP0 X.K fe) σ H Q:=by
 &⟨ρ,O,E,hq⟩:=h0
 &xZ E ?_
 have e:dv fi src tgt fc fe ρ=lcV fi src tgt fc fe ρ >>= fun l=> .ok (.lst l):=x5
 rw [e]at hq
 cases q:lcV fi src tgt fc fe ρ with
 | bad=>rw [q]at hq;#hq.elim
 | err c=>rw [q]at hq;#hq
 | ok l=>
  rw [q,aD]at hq
  intro H1 s1 D ys H' nD sD eD rD
  #hq H' (s1.trans sD) _ (Rep.lst_iff.mpr ⟨D,ys,rfl,fun z=>(E.same s1).fresh nD.1 z,eD,rD.less fun a z=> .inl z⟩)
&q_lc {elt tg iter:Expr}{ifs:List Expr}{scope:Scope}{N':List Str}{src:List (Option Nat)}{fi:En->Rs (List T)}{tgt:T->En->Rs En}{fc:En->Rs Bool}{fe:En->Rs T}
  (hc:X.calm=true) (S:LcScope X scope N' src) (hi:wq X tg iter fi)
  (block:∀ cl C s₀ H₀ fp,PGt (bW X scope cl N' C s₀ H₀ fp) tg tgt/\wr (bW X scope cl N' C s₀ H₀ fp) ifs (wJ (bW X scope cl N' C s₀ H₀ fp) fc)/\b9 (bW X scope cl N' C s₀ H₀ fp) elt fe)
  (hs:∀ x,foldedSetIterable iter X.env x=pure x:=by intro _;rfl) :
  b9 X (.ListComp elt [⟨tg,iter,ifs,0⟩] scope pos) (dv fi src tgt fc fe):=by
 have hPG:∀ cl C s₀ H₀ fp,PG (bW X scope cl N' C s₀ H₀ fp) tg (wK X tgt):=fun cl C s₀ H₀ fp=>(block cl C s₀ H₀ fp).1
 have hPI:∀ cl C s₀ H₀ fp,wr (bW X scope cl N' C s₀ H₀ fp) ifs (tPT0 X.K fc):=fun cl C s₀ H₀ fp pins s σ H Q I h=>(block cl C s₀ H₀ fp).2.1 pins s σ H Q I (tPT0.up (X:=bW X scope cl N' C s₀ H₀ fp) h)
 have hPE:∀ cl C s₀ H₀ fp,PE (bW X scope cl N' C s₀ H₀ fp) elt (tP0 X.K fe):=fun cl C s₀ H₀ fp pins s σ H Q I h=>(block cl C s₀ H₀ fp).2.2 pins s σ H Q I (tP0.up (X:=bW X scope cl N' C s₀ H₀ fp) h)
 #PE.imp (rz (g:=wK X tgt) (tc:=tPT0 X.K fc) (te:=tP0 X.K fe) hc S hi (fun cl C s₀ H₀ fp=>⟨hPG cl C s₀ H₀ fp,hPI cl C s₀ H₀ fp,hPE cl C s₀ H₀ fp⟩) hs) fun σ H Q h=>uG h
inductive Fl where
 | nx (ρ:En) | rt (t:T) | bk (ρ:En) | ct (ρ:En)
def OO (B:Ow)(M:Mn):Ow:=fun a=>B a\/M.u a
structure Ev (K:PySem.W.Frag)(B:Ow)(M:Mn)(H:Hp)(ρ:En)(σ:L2.St):Prop where
 env:EnvM K (OO B M) M H ρ σ
 mine:∀ a,M.u a->¬ B a
&Ev.same {K:PySem.W.Frag}{B:Ow}{M:Mn}{H H':Hp}{ρ:En}{σ:L2.St}(h:Same H H')(e:Ev K B M H ρ σ):Ev K B M H' ρ σ:=⟨e.env.same h,e.mine⟩
&Ev.o {K:PySem.W.Frag}{B:Ow}{M:Mn}{H:Hp}{ρ:En}{σ:L2.St}(e:Ev K B M H ρ σ):EnvO K (OO B M) H ρ σ:=⟨M,e.env⟩
def PostF (X:Cx)(B P:Ow)(H:Hp)(r:Rs Fl)(D:qG):Prop:=match r with
 | .ok (.nx ρ')=> ∀σ' H' M',SameO P H H'->Ev X.K B M' H' ρ' σ'->(∀a,M'.u a->P a\/Nw X.K H a)->D.nx σ' H'
 | .ok (.rt t)=> ∀v H',SameO P H H'->Rep X.K B H' t v->D.rt v H'
 | .ok (.bk ρ')=> ∀σ' H' M',SameO P H H'->Ev X.K B M' H' ρ' σ'->(∀a,M'.u a->P a\/Nw X.K H a)->D.bk σ' H'
 | .ok (.ct ρ')=> ∀σ' H' M',SameO P H H'->Ev X.K B M' H' ρ' σ'->(∀a,M'.u a->P a\/Nw X.K H a)->D.ct σ' H'
 | .err c=>XA X P H c
 | .bad=>False
def tPS (X:Cx)(F:En->Rs Fl):TS:=fun D σ H=> ∃ρ B M,Ev X.K B M H ρ σ/\PostF X B M.u H (F ρ) D
abbrev nT (X:Cx)(s:Stmt)(F:En->Rs Fl):Prop:=PS X s (tPS X F)
abbrev k7 (X:Cx)(s:List Stmt)(F:En->Rs Fl):Prop:=PSs X s (tPS X F)
&PostF.later {B P P1:Ow}{H H1:Hp}{r:Rs Fl}{D:qG}(h:PostF X B P H r D)(s:SameO P H H1)(sub:∀ a,P1 a->P a\/Nw X.K H a):PostF X B P1 H1 r D:=by
 have back:∀ a,P1 a\/Nw X.K H1 a->P a\/Nw X.K H a:=fun a z=>z.elim (sub a) (gZ s)
 cases r with
 | bad=>#h
 | err c=>#XA.later h s sub
 | ok f=>
  cases f with
  | nx ρ'=>#fun σ' H' M' s' E' o'=>h σ' H' M' (s.trans s' sub) E' fun a z=>back a (o' a z)
  | rt t=>#fun v H' s' r=>h v H' (s.trans s' sub) r
  | bk ρ'=>#fun σ' H' M' s' E' o'=>h σ' H' M' (s.trans s' sub) E' fun a z=>back a (o' a z)
  | ct ρ'=>#fun σ' H' M' s' E' o'=>h σ' H' M' (s.trans s' sub) E' fun a z=>back a (o' a z)
&PostF.xa {B P:Ow}{H:Hp}{c:Str}{D:qG}(h:PostF X B P H (.err c) D):XA X wn H c:=XA.later (P:=P) h (fun _ _ e _=>e) fun _ z=>z.elim
def sN (ρ:En):Rs Fl:=.ok (.nx ρ)
def ax (F G:En->Rs Fl)(ρ:En):Rs Fl:=do
 let f <-F ρ
 match f with
 | .nx ρ'=>G ρ'
 | f=> .ok f
&qs_nil:k7 X [] sN:=PSs.imp uh fun D σ H ⟨ρ,B,M,E,h⟩=>h σ H M (fun _ _ e _=>e) E fun a z=> .inl z
&qs_cons {st:Stmt}{cL:List Stmt}{F G:En->Rs Fl}(h1:nT X st F)(h2:k7 X cL G):k7 X (st::cL) (ax F G):=PSs.imp (kf h1 h2) fun D σ H hh_=>by
 &⟨ρ,B,M,E,h⟩:=hh_
 &⟨ρ,B,M,E,?_⟩
 unfold ax at h
 cases q:F ρ with
 | bad=>rw [q]at h;#h.elim
 | err c=>rw [q]at h;#h
 | ok f=>
  rw [q,aD]at h
  cases f with
  | nx ρ'=>#fun σ' H' M' s' E' o'=>⟨ρ',B,M',E',h.later s' o'⟩
  | rt t=>#h
  | bk ρ'=>#h
  | ct ρ'=>#h
&qs_one {st:Stmt}{F:En->Rs Fl}(h:nT X st F):k7 X [st] F:=fJ h
def aL (f:En->Rs T)(ρ:En):Rs Fl:=do
 let t <-f ρ
 .ok (.rt t)
&qs_ret (ha:b9 X a fa):nT X (.Return (some a) pos) (aL fa):=PS.imp (iH ha) fun D σ H hh_=>by
 &⟨ρ,B,M,E,h⟩:=hh_
 &⟨ρ,OO B M,E.o,?_⟩
 unfold aL at h
 cases q:fa ρ with
 | bad=>rw [q]at h;#h.elim
 | err c=>rw [q]at h;#PostF.xa h
 | ok t=>
  rw [q,aD]at h
  #fun H' s v r=>h v H' (SameO.of s) (r.less fun _ z=> .inl z)
def eI (f:En->Rs Bool)(F G:En->Rs Fl)(ρ:En):Rs Fl:=do
 let k <-f ρ
 if k then F ρ else G ρ
&qs_if {f:En->Rs Bool}{A B:List Stmt}{F G:En->Rs Fl}(hc:sC X c f)(ha:k7 X A F)(hb:k7 X B G):nT X (.If c A B pos) (eI f F G):=PS.imp (ps_if hc ha hb) fun D σ H hh_=>by
 &⟨ρ,B,M,E,h⟩:=hh_
 &⟨ρ,OO B M,E.o,?_⟩
 unfold eI at h
 cases q:f ρ with
 | bad=>rw [q]at h;#h.elim
 | err c=>rw [q]at h;#PostF.xa h
 | ok k=>
  rw [q,aD]at h
  intro H' s
  have E':Ev X.K B M H' ρ σ:=E.same s
  cases k with
  | true=>&L2.iteT ?_;#⟨ρ,B,M,E',PostF.later (by simpa using h) (SameO.of s) fun a z=> .inl z⟩
  | false=>&L2.iteF ?_;#⟨ρ,B,M,E',PostF.later (by simpa using h) (SameO.of s) fun a z=> .inl z⟩
def bQ (f:En->Rs T)(g:T->En->Rs En)(ρ:En):Rs Fl:=do
 let t <-f ρ
 match g t ρ with
 | .ok ρ'=> .ok (.nx ρ')
 | _=> .bad
&wT {B:Ow}{M:Mn}{ρ:En}{σ:L2.St}{H:Hp}{D:qG}{g:T->En->Rs En}{f:En->Rs T}(E:Ev X.K B M H ρ σ)(h:PostF X B M.u H (bQ f g ρ) D):wL (tP X f) (wK X g) D σ H:=by
 &⟨ρ,OO B M,E.o,?_⟩
 unfold bQ at h
 cases q:f ρ with
 | bad=>rw [q]at h;#h.elim
 | err c=>rw [q]at h;#PostF.xa h
 | ok t=>
  rw [q,aD]at h
  intro H' s v r
  &⟨ρ,OO B M,M,t,E.env.same s,r,?_⟩
  cases q2:g t ρ with
  | bad=>rw [q2]at h;#h.elim
  | err c=>rw [q2]at h;#h.elim
  | ok ρ'=>
   rw [q2]at h
   #fun σ' E'=>h σ' H' M (SameO.of s) ⟨E',E.mine⟩ fun a z=> .inl z
&tP_mono {f:En->Rs T}{σ:L2.St}{H:Hp}{Q Q':VK}(h:tP X f σ H Q)(w:∀ v H',Q v H'->Q' v H'):tP X f σ H Q':=by
 &⟨ρ,O,E,q⟩:=h
 #⟨ρ,O,E,Post.mono q fun t H' _ z v r=>w v H' (z v r)⟩
&qs_lc {elt tg iter:Expr}{ifs:List Expr}{scope:Scope}{spos py:Pos}{N':List Str}{src:List (Option Nat)}{fi:En->Rs (List T)}{tgt:T->En->Rs En}{fc:En->Rs Bool}{fe:En->Rs T}(i:Nat){y:Str}
  (hc:X.calm=true) (S:LcScope X scope N' src) (hi:wq X tg iter fi)
  (block:∀ cl C s₀ H₀ fp,PGt (bW X scope cl N' C s₀ H₀ fp) tg tgt/\wr (bW X scope cl N' C s₀ H₀ fp) ifs (wJ (bW X scope cl N' C s₀ H₀ fp) fc)/\b9 (bW X scope cl N' C s₀ H₀ fp) elt fe)
  (hN:X.N.Nodup) (hiy:X.N[i]? =some y:=by rfl) (hy:Loc X.env.scope y:=by first | #Or.inl rfl | #Or.inr rfl) (hsw:swapsWith (.ListComp elt [⟨tg,iter,ifs,0⟩] scope pos) (some (.Name y py)) spos.line X.env=pure true:=by rfl)
  (hf:X.fn y=true\/X.env.scope.names.lookup y=some .local:=by first | #.inl rfl | #.inr rfl | assumption) (hs:∀ x,foldedSetIterable iter X.env x=pure x:=by intro _;rfl) :
  nT X (.Assign [.Name y py] (.ListComp elt [⟨tg,iter,ifs,0⟩] scope pos) spos) (bQ (dv fi src tgt fc fe) (gN i)):=by
 have hPG:∀ cl C s₀ H₀ fp,PG (bW X scope cl N' C s₀ H₀ fp) tg (wK X tgt):=fun cl C s₀ H₀ fp=>(block cl C s₀ H₀ fp).1
 have hPI:∀ cl C s₀ H₀ fp,wr (bW X scope cl N' C s₀ H₀ fp) ifs (tPT0 X.K fc):=fun cl C s₀ H₀ fp pins s σ H Q I h=>(block cl C s₀ H₀ fp).2.1 pins s σ H Q I (tPT0.up (X:=bW X scope cl N' C s₀ H₀ fp) h)
 have hPE:∀ cl C s₀ H₀ fp,PE (bW X scope cl N' C s₀ H₀ fp) elt (tP0 X.K fe):=fun cl C s₀ H₀ fp pins s σ H Q I h=>(block cl C s₀ H₀ fp).2.2 pins s σ H Q I (tP0.up (X:=bW X scope cl N' C s₀ H₀ fp) h)
 &PS.imp (ps_lc (g:=wK X tgt) (tc:=tPT0 X.K fc) (te:=tP0 X.K fe) (i:=i) hc S hi (fun cl C s₀ H₀ fp=>⟨hPG cl C s₀ H₀ fp,hPI cl C s₀ H₀ fp,hPE cl C s₀ H₀ fp⟩) hN hiy hy hsw hf hs) fun D σ H ⟨ρ,B,M,E,h⟩=>uG (tP_mono (wT E h) fun v H' z=> ?_)
 &⟨ρ',O,M',t,E',r,q⟩:=z
 unfold gN at q
 split at q
 ·rename_i ρ2 e
  split at e
  ·rename_i hl
   cases e
   #q _ (E'.set hl r)
  ·cases e
 ·#q.elim
&qs_asg {tg:Expr}{g:T->En->Rs En}(ha:b9 X a fa)(hg:PGt X tg g)(hs:swapsWithSole [tg] a pos.line X.env=pure false:=by rfl)(hw:swappedStores [tg] a X.env=pure none:=by rfl)
  (h1:(assignEach [tg] X.env).map (·.2)= [assign tg X.env]:=by rfl):nT X (.Assign [tg] a pos) (bQ fa g):=PS.imp (ps_asg ha hg hs hw h1) fun D σ H ⟨ρ,B,M,E,h⟩=>wT E h
def sEx (f:En->Rs T)(ρ:En):Rs Fl:=do
 let _ <-f ρ
 .ok (.nx ρ)
&qs_expr (ha:b9 X a fa)(hs:swapsWith a none pos.line X.env=pure false:=by rfl):nT X (.Expr a pos) (sEx fa):=PS.imp (pL ha hs) fun D σ H hh_=>by
 &⟨ρ,B,M,E,h⟩:=hh_
 &⟨ρ,OO B M,E.o,?_⟩
 unfold sEx at h
 cases q:fa ρ with
 | bad=>rw [q]at h;#h.elim
 | err c=>rw [q]at h;#PostF.xa h
 | ok t=>
  rw [q,aD]at h
  #fun H' s v r=>h σ H' M (SameO.of s) (E.same s) fun a z=> .inl z
def aX (g:T->En->Rs En)(F:En->Rs Fl):List T->En->Rs Fl
 | [],ρ=> .ok (.nx ρ)
 | t::r,ρ=>do
  let ρ1 <-g t ρ
  let f <-F ρ1
  match f with
  | .nx ρ2=>aX g F r ρ2
  | .ct ρ2=>aX g F r ρ2
  | .bk ρ2=> .ok (.nx ρ2)
  | .rt t=> .ok (.rt t)
def dA (fi:En->Rs (List T))(g:T->En->Rs En)(F:En->Rs Fl)(ρ:En):Rs Fl:=do
 let ts <-fi ρ
 match aX g F ts ρ with
 | .ok f=> .ok f
 | _=> .bad
&kL {α:Type}{t:Sem α}{Q:α->Shared->Prop}{s:Shared}{E:Value->Shared->Prop}{P:Program}{w:World}{A:Around}(h:wpAny (model P w) A t Q (fun _ _=>False) s):wpAny (model P w) A t Q E s:=wpAny_mono h (fun _ _ q=>q) fun _ _ z=>z.elim
&ps_forN {tg iter:Expr}{body:List Stmt}{wi:TI}{g:TG}{tb:TS}{pos:Pos}(hc:X.calm=true)(hi:PI X tg iter wi)(hg:PG X.nox tg g)(hb:PSs X.nox body tb)
  (hs:∀ x,foldedSetIterable iter X.env x=pure x:=by intro _;rfl):PS X (.For tg iter body [] pos) (tFor wi g tb):=by
 intro pins s σ H D I h
 &wpAny_For (bU (hi pins s σ H _ I h) fun v s1 h1=>bU h1 fun itv s2 h2=> ?_) hs
 &⟨it,fp,tn,J,H2,e,I2,T,st2,f2,W,⟨m0,w0⟩,turn⟩:=h2
 subst e
 have stat:∀ {H':Hp},(∀b∈fp,H' b=none)->∀ b∈fp,nQ X pins H' b:=fun hn b hb=>⟨hn b hb,(f2 b hb).2⟩
 &codeAny_forLoop_any (fun n s'=> ∃i σ' H',Inv X pins σ' H' s'/\tn i s'.heap/\(∀b∈fp,H' b=none)/\W i n σ' H') ?_ m0 ⟨0,σ,H2,I2,st2,fun b hb=>(f2 b hb).1,w0⟩
 rintro n s3 ⟨i,σ3,H3,I3,st3,fr3,w3⟩
 rcases turn i n σ3 H3 w3 with⟨stop,qn⟩ | ⟨go,N,hN,step⟩
 ·&kL (bU (T.done X.nox rfl rfl rfl hc i pins s3 σ3 H3 _ (I3.wish _) (stat fr3) st3 stop) fun r s4 ⟨hr,I4⟩=> ?_)
  subst hr
  #wpAny_execs_nil ⟨σ3,H3,I4.wish _,qn⟩
 ·&kL (bU (T.item X.nox rfl rfl rfl hc i pins s3 σ3 H3 _ (I3.wish _) (stat fr3) st3 go) fun r s4 ⟨u,hr,h4⟩=> ?_)
  subst hr
  &kL (bU h4 fun _ s5 hh_=> ?_)
  &⟨x,H5,I5,r5,y5,st5,fr5⟩:=hh_
  have I5':=Inv.pinned (X:=X.nox) I5 (stat fr5) (T.obj _ _ st5)
  &kL (bU (hg _ s5 σ3 H5 x u _ I5' r5 (step x H5 y5)) fun _ s6 hh_=> ?_)
  &⟨σ6,H6,I6,q6⟩:=hh_
  &kL (bU (hb _ s6 σ6 H6 _ I6 q6) fun f s7 q7=> ?_)
  have again:∀ {σ7:L2.St} {H7:Hp},Inv X.nox (pins++mr fp s5.heap) σ7 H7 s7->N σ7 H7->∃ m,m<n/\∃ i σ' H',Inv X pins σ' H' s7/\tn i s7.heap/\(∀b∈fp,H' b=none)/\W i m σ' H':=fun {σ7 H7} I7 n7=>by
   &⟨m',hm,w7⟩:=hN σ7 H7 n7
   &⟨m',hm,i+1,σ7,H7,(Inv.unpinned (X:=X.nox) I7).wish _,T.keep _ _ _ st5 fun b hb o e=>(I7.pin (b,o) (List.mem_append_right _ (List.mem_append_right _ (g8 hb e)))).1,fun b hb=> ?_,w7⟩
   &⟨o,e,d⟩:=T.obj _ _ st5 b hb
   #(I7.pin (b,o) (List.mem_append_right _ (List.mem_append_right _ (g8 hb e)))).2.1
  cases f with
  | next=>&⟨σ7,H7,I7,n7⟩:=q7;#again I7 n7
  | cont=>&⟨σ7,H7,I7,n7⟩:=q7;#again I7 n7
  | brk=>&⟨σ7,H7,I7,q7⟩:=q7;#⟨σ7,H7,(Inv.unpinned (X:=X.nox) I7).wish _,q7⟩
  | ret v=>&⟨x7,σ7,H7,I7,r7,q7⟩:=q7;#⟨x7,σ7,H7,(Inv.unpinned (X:=X.nox) I7).wish _,r7,q7⟩
&qs_for {tg iter:Expr}{body:List Stmt}{fi:En->Rs (List T)}{g:T->En->Rs En}{F:En->Rs Fl}(hc:X.calm=true)(hi:wq X tg iter fi)(hg:PGt X.nox tg g)(hb:k7 X.nox body F)
  (hs:∀ x,foldedSetIterable iter X.env x=pure x:=by intro _;rfl):nT X (.For tg iter body [] pos) (dA fi g F):=PS.imp (ps_forN hc hi hg hb hs) fun D σ H hh_=>by
 &⟨ρ,B,M,E,h⟩:=hh_
 &⟨ρ,OO B M,E.o,?_⟩
 unfold dA at h
 cases q:fi ρ with
 | bad=>rw [q]at h;#h.elim
 | err c=>rw [q]at h;#PostF.xa h
 | ok ts=>
  rw [q,aD]at h
  cases qq:aX g F ts ρ with
  | bad=>rw [qq]at h;#h.elim
  | err c=>rw [qq]at h;#h.elim
  | ok fin=>
  rw [qq]at h
  intro H1 s1 J hJ
  have E1:Ev X.K B M H1 ρ σ:=E.same s1
  have h1:PostF X B M.u H1 (.ok fin) D:=PostF.later h (SameO.of s1) fun a z=> .inl z
  &⟨fun i m σ' H'=>m=ts.length - i/\i<=ts.length/\SameO M.u H1 H'/\∃ ρ' M',Ev X.K B M' H' ρ' σ'/\(∀a,M'.u a->M.u a\/Nw X.K H1 a)/\aX g F (ts.drop i) ρ'= .ok fin,
   ⟨ts.length,by omega,Nat.zero_le _,fun _ _ e _=>e,ρ,M,E1,fun a z=> .inl z,by simpa using qq⟩,?_⟩
  rintro i m σ' H' ⟨rfl,hi',sm,ρ',M',E',ow,hl⟩
  have it:=hJ M.u (OO B M') (fun a z=> .inl (.inr z)) (fun a z=>z.elim (fun w=> .inl (.inl w)) fun w=>(ow a w).elim (fun y=> .inl (.inr y)) .inr) i H' sm (fun a z=>(E'.env.trk a z).some)
  by_cases hlt:i<ts.length
  ·have hti:ts[i]? =some ts[i]:=by simp
   &⟨go,yl⟩:=it.2 ts[i] hti
   rw [List.drop_eq_getElem_cons hlt]at hl
   unfold aX at hl
   &.inr ⟨go,fun σ2 H2=> ∃m',m'<ts.length - i/\(m'=ts.length - (i+1)/\i+1<=ts.length/\SameO M.u H1 H2/\∃ ρ2 M2,Ev X.K B M2 H2 ρ2 σ2/\(∀a,M2.u a->M.u a\/Nw X.K H1 a)/\aX g F (ts.drop (i+1)) ρ2= .ok fin),fun σ2 H2 z=>z,fun x Hc y=> ?_⟩
   &⟨sc,rx⟩:=yl x Hc y
   &⟨ρ',OO B M',M',ts[i],E'.env.same sc,rx,?_⟩
   cases e1:g ts[i] ρ' with
   | bad=>rw [e1]at hl;cases hl
   | err cc=>rw [e1]at hl;cases hl
   | ok ρ1=>
    rw [e1,aD]at hl
    intro σ1 Eg
    have E2:Ev X.K B M' Hc ρ1 σ1:=⟨Eg,E'.mine⟩
    &⟨ρ1,B,M',E2,?_⟩
    have smc:SameO M.u H1 Hc:=fun b o e n=>sc _ _ (sm b o e n)
    have onward:∀ {σ3:L2.St} {H3:Hp} {ρ3:En} {M3:Mn},SameO M'.u Hc H3->Ev X.K B M3 H3 ρ3 σ3->(∀a,M3.u a->M'.u a\/Nw X.K Hc a)->aX g F (ts.drop (i+1)) ρ3= .ok fin →
      ∃m',m'<ts.length - i/\(m'=ts.length - (i+1)/\i+1<=ts.length/\SameO M.u H1 H3/\∃ ρ2 M2,Ev X.K B M2 H3 ρ2 σ3/\(∀a,M2.u a->M.u a\/Nw X.K H1 a)/\aX g F (ts.drop (i+1)) ρ2= .ok fin):=
     fun {σ3 H3 ρ3 M3} s3 E3 o3 p3=>⟨_,by omega,rfl,hlt,smc.trans s3 ow,ρ3,M3,E3,fun a z=>(o3 a z).elim (ow a) (gZ smc),p3⟩
    cases e2:F ρ1 with
    | bad=>rw [e2]at hl;cases hl
    | err cc=>rw [e2]at hl;cases hl
    | ok f=>
     rw [e2,aD]at hl
     cases f with
     | nx ρ2=>#fun σ3 H3 M3 s3 E3 o3=>onward s3 E3 o3 hl
     | ct ρ2=>#fun σ3 H3 M3 s3 E3 o3=>onward s3 E3 o3 hl
     | bk ρ2=>
      cases hl
      #fun σ3 H3 M3 s3 E3 o3=>h1 σ3 H3 M3 (smc.trans s3 ow) E3 fun a z=>(o3 a z).elim (ow a) (gZ smc)
     | rt t=>
      cases hl
      #fun v H3 s3 r=>h1 v H3 (smc.trans s3 ow) r
  ·&.inl ⟨it.1 (by omega),?_⟩
   have hi2:i=ts.length:=by omega
   subst hi2
   rw [List.drop_length]at hl
   cases hl
   #h1 σ' H' M' sm E' ow
def bv (c:En->Rs Bool)(F:En->Rs Fl):Nat->En->Rs Fl
 | 0,_=> .bad
 | n+1,ρ=>match c ρ with
  | .ok false=> .ok (.nx ρ)
  | .ok true=>match F ρ with
   | .ok (.nx ρ')=>bv c F n ρ'
   | .ok (.ct ρ')=>bv c F n ρ'
   | .ok (.bk ρ')=> .ok (.nx ρ')
   | .ok (.rt t)=> .ok (.rt t)
   | _=> .bad
  | _=> .bad
&w9 {c:Expr}{body:List Stmt}{fc:En->Rs Bool}{F:En->Rs Fl}(n:Nat)(hc:sC X.nox c fc)(hb:k7 X.nox body F):nT X (.While c body [] pos) (bv fc F n):=by
 have base:PS X.nox (.While c body [] pos) (sL (wJ X.nox fc) (tPS X.nox F)):=xn PassesOwn.never hc hb
 intro pins s σ H D I ⟨ρ,B,M,E,h⟩
 cases qq:bv fc F n ρ with
 | bad=>rw [qq]at h;#h.elim
 | err c=>
  exfalso
  have:∀ n ρ,bv fc F n ρ≠ .err c:=by
   intro n
   induction n with
   | zero=>intro ρ z;cases z
   | succ n ih=>
    intro ρ z
    unfold bv at z
    split at z
    ·cases z
    ·split at z <;> first | #ih _ z | cases z
    ·cases z
  #this n ρ qq
 | ok fin=>
  rw [qq]at h
  have goal:sL (wJ X.nox fc) (tPS X.nox F) D σ H:=by
   &⟨fun m σ' H'=>SameO M.u H H'/\∃ ρ' M',Ev X.K B M' H' ρ' σ'/\(∀a,M'.u a->M.u a\/Nw X.K H a)/\bv fc F m ρ'= .ok fin,⟨n,fun _ _ e _=>e,ρ,M,E,fun a z=> .inl z,qq⟩,?_⟩
   rintro m σ' H' ⟨sm,ρ',M',E',ow,hl⟩
   cases m with
   | zero=>cases hl
   | succ m=>
    &⟨ρ',OO B M',E'.o,?_⟩
    unfold bv at hl
    cases e1:fc ρ' with
    | bad=>rw [e1]at hl;cases hl
    | err cc=>rw [e1]at hl;cases hl
    | ok k=>
     rw [e1]at hl
     intro H2 s2
     have E2:Ev X.K B M' H2 ρ' σ':=E'.same s2
     have sm2:SameO M.u H H2:=fun b o e n=>s2 _ _ (sm b o e n)
     cases k with
     | false=>
      cases hl
      &L2.iteF ?_
      #h σ' H2 M' sm2 E2 ow
     | true=>
      &L2.iteT ?_
      &⟨fun σ3 H3=>SameO M.u H H3/\∃ ρ3 M3,Ev X.K B M3 H3 ρ3 σ3/\(∀a,M3.u a->M.u a\/Nw X.K H a)/\bv fc F m ρ3= .ok fin,fun σ3 H3 z=>⟨m,Nat.lt_succ_self m,z⟩,ρ',B,M',E2,?_⟩
      have hl':(match F ρ' with | .ok (.nx ρ')=>bv fc F m ρ' | .ok (.ct ρ')=>bv fc F m ρ' | .ok (.bk ρ')=> .ok (.nx ρ') | .ok (.rt t)=> .ok (.rt t) | _=> .bad)= .ok fin:=hl
      cases e2:F ρ' with
      | bad=>rw [e2]at hl';cases hl'
      | err cc=>rw [e2]at hl';cases hl'
      | ok f=>
       rw [e2]at hl'
       cases f with
       | nx ρ2=>#fun σ3 H3 M3 s3 E3 o3=>⟨sm2.trans s3 ow,ρ2,M3,E3,fun a z=>(o3 a z).elim (ow a) (gZ sm2),hl'⟩
       | ct ρ2=>#fun σ3 H3 M3 s3 E3 o3=>⟨sm2.trans s3 ow,ρ2,M3,E3,fun a z=>(o3 a z).elim (ow a) (gZ sm2),hl'⟩
       | bk ρ2=>
        cases hl'
        #fun σ3 H3 M3 s3 E3 o3=>h σ3 H3 M3 (sm2.trans s3 ow) E3 fun a z=>(o3 a z).elim (ow a) (gZ sm2)
       | rt t=>
        cases hl'
        #fun v H3 s3 r=>h v H3 (sm2.trans s3 ow) r
  &kL (bU (base pins s σ H D (I.wish _) goal) fun f s' q=> ?_)
  cases f with
  | next=>&⟨σ7,H7,I7,n7⟩:=q;#⟨σ7,H7,I7.wish _,n7⟩
  | cont=>&⟨σ7,H7,I7,n7⟩:=q;#⟨σ7,H7,I7.wish _,n7⟩
  | brk=>&⟨σ7,H7,I7,n7⟩:=q;#⟨σ7,H7,I7.wish _,n7⟩
  | ret v=>&⟨x7,σ7,H7,I7,r7,q7⟩:=q;#⟨x7,σ7,H7,I7.wish _,r7,q7⟩
def sCt (ρ:En):Rs Fl:=.ok (.ct ρ)
end
def dt (F:En->Rs Fl)(ρ:En):Rs T:=do
 let f <-F ρ
 match f with
 | .nx _=> .ok .non
 | .rt t=> .ok t
 | _=> .bad
def bp (n:Nat)(ts:List T):En:=ts.map Sl.va++List.replicate (n - ts.length) Sl.em
&vj {n:Nat}{ts:List T}{i:Nat}{o:OT}(e:(bp n ts)[i]? =some (.ow o)):False:=by
 unfold bp at e
 by_cases hi:i<ts.length
 ·rw [List.getElem?_append_left (by simpa using hi),List.getElem?_map,List.getElem?_eq_getElem hi]at e
  cases e
 ·rw [List.getElem?_append_right (by simpa using hi),List.getElem?_replicate]at e
  split at e <;> cases e
&oy {K:PySem.W.Frag}{O:Ow}{H:Hp}{N:List Str}{ts:List T}{vs:List V}(r:Reps K O H ts vs)(hl:ts.length<=N.length)(trk:∀ a,O a->Mtb H a):Ev K O noM H (bp N.length ts) (start N vs):=by
 have hlen:=r.length
 have sub:∀ a,OO O noM a->O a:=fun a z=>z.elim id fun⟨_,w⟩=>w.elim
 &⟨⟨by #,bp L2.start;simp;omega,fun i t e=> ?_,fun i o e=>(vj e).elim,fun _ _ z=>z.elim,fun _ _ _ z=>z.elim,fun a z=>trk a (sub a z)⟩,fun a ⟨_,z⟩=>z.elim⟩
 unfold bp at e
 #,L2.start
 by_cases hi:i<ts.length
 ·rw [List.getElem?_append_left (by simpa using hi),List.getElem?_map,List.getElem?_eq_getElem hi]at e
  have e':ts[i] =t:=by injection e with e;injection e
  &⟨v,e1,e2⟩:=r.get (i:=i) (t:=t) (by rw [<-e'];simp)
  &⟨v,?_,e2.less sub⟩
  rw [List.getElem?_append_left (by simp;omega),List.getElem?_map,e1];rfl
 ·rw [List.getElem?_append_right (by simpa using hi),List.getElem?_replicate]at e
  split at e <;> cases e
section
variable {P:Program}{w:World}{K:PySem.W.Frag}{mg:Str->Option Value}{base:Heap}
&fn_ok {x qual:Str}{st:Stmt}{f:Addr}{fd:FuncData}{N ps:List Str}{k n:Nat}{g:List T->Rs T}(Fn:L2.Fun K x qual st f fd)(S:aE N ps (aj st))(hn:ps.length=n)
  (hbody:∀ (cdv:Value) (A:Around) (outer:List Env) (s:Shared) (H:Hp) (E:XK),Room k (A.deeper (envOfC qual (aj st) s.heap.objs.size f cdv)) →
   ∃F,k7 (kA CX0 P w K mg base N qual (aj st) f cdv A outer s H E).nox (cO st) F/\∀ ts,ts.length=n->∀ t,g ts= .ok t->dt F (bp N.length ts)= .ok t):qF P w K mg base CX0 (k+1) f fd ps (spP K n g):=by
 have hpl:ps.length<=N.length:=by have:=congrArg List.length S.pre;rw [List.length_take]at this;omega
 &Fn.ok S (fun vs H Q E h=> ?_) (fun cdv A outer s H vs Q E hr h=> ?_)
 ·&⟨ts,O,r,_,hl,_⟩:=h
  rw [<-r.length,hl,hn]
 ·&⟨ts,O,r,trk,hl,h⟩:=h
  &⟨F,hF,hv⟩:=hbody cdv A outer s H E hr
  &⟨_,hF,bp N.length ts,O,noM,oy r (by omega) trk,?_⟩
  have no:∀ a,¬noM.u a:=fun a ⟨_,z⟩=>z
  cases q:g ts with
  | bad=>rw [q]at h;#h.elim
  | err c=>rw [q]at h;#h.elim
  | ok t=>
   rw [q]at h
   have hb:=hv ts hl t q
   unfold dt at hb
   cases q2:F (bp N.length ts)with
   | bad=>rw [q2]at hb;cases hb
   | err c=>rw [q2]at hb;cases hb
   | ok fl=>
    rw [q2,aD]at hb
    have sameOf:∀ H',SameO noM.u H H'->Same H H':=fun H' s b o e=>s b o e (no b)
    cases fl with
    | nx ρ'=>cases hb;#fun σ' H' M' s' E' o'=>h .non H' (sameOf H' s') Rep.non_
    | rt t'=>cases hb;#fun v H' s' r'=>h v H' (sameOf H' s') r'
    | bk ρ'=>cases hb
    | ct ρ'=>cases hb
end
end Tr
namespace Enu
open PySem
open AutoSeq1 (wpAny_loadPart')
section
variable {prog:Program}{w:World}{A:Around}{E:Value->Shared->Prop}{s:Shared}
&tupNext {it tt:Addr}{k:Nat}{its:Array Value}{x:Value}{Q:Value->Shared->Prop}(hi:s.heap.IsTupleIter it tt k)(ht:s.heap.IsTuple tt its)(hx:its[k]? =some x)
  (hQ:∀ h',h'.IsTupleIter it tt (k+1)->Heap.SameBut it s.heap h'->Q x { s with heap:=h' }):wpAny (model prog w) A (Builtin.SmallTypes.nextOf (.ref it)) Q E s:=by
 &⟨ob,g1,g2,g3⟩:=id hi
 &⟨ot,k1,_,m,k3⟩:=ht
 #,Builtin.SmallTypes.nextOf
 &wpAny_bind (wpAny_callSpecial?_slot (name:=Str.ofString "__next__") hi.typeIs F.slot_tuple_iterator_next (wpAny_call_entry F.slot_tuple_iterator_next hi.typeIs F.entry_tuple_iterator_next ?_ (F.args_tuple_iterator_next_1 _)))
 show wpAny (model prog w) _ (field (.ref it) 0 >>= _) _ _ s
 &wpAny_bind (wpAny_field g1 g3 (x:=.ref tt) rfl ?_)
 show wpAny (model prog w) _ (if (Value.ref tt == Value.none)=true then _ else _) _ _ s
 rw [if_neg (show ¬((Value.ref tt == Value.none)=true)by #Bool.false_ne_true)]
 show wpAny (model prog w) _ (field (.ref it) 1 >>= _) _ _ s
 &wpAny_bind (wpAny_field g1 g3 (x:=.int k 0) rfl ?_)
 show wpAny (model prog w) _ (seqItems? (.ref tt) >>= _) _ _ s
 &wpAny_bind (wpAny_seqItems k1 k3 ?_)
 simp only [hx,Int.toNat_natCast]
 &wpAny_bind (wpAny_setField g1 g3 (by simp) (wpAny_pure ⟨x,rfl,wpAny_pure (hQ _ ?_ (Heap.SameBut.update ..))⟩))
 &⟨_,Heap.get?_update_self _ g1 (Obj.isFreed_of_fields (Obj.data_mapFields g3 _)),(Obj.cls_mapFields ..).trans g2,?_⟩
 rw [Obj.data_mapFields g3]
 simp [rawInt]
&tupStop {it tt:Addr}{k:Nat}{its:Array Value}{Q:Value->Shared->Prop}(hh:A.handled=none)(hi:s.heap.IsTupleIter it tt k)(ht:s.heap.IsTuple tt its)(hx:its[k]? =none)
  (hE:∀ h' e,Heap.ExtBut it s.heap h'->(∃o,h'.get? e=some o/\o.cls= .type "StopIteration")->E (.ref e) { s with heap:=h' }):wpAny (model prog w) A (Builtin.SmallTypes.nextOf (.ref it)) Q E s:=by
 &⟨ob,g1,g2,g3⟩:=id hi
 &⟨ot,k1,_,m,k3⟩:=ht
 #,Builtin.SmallTypes.nextOf
 &wpAny_bind (wpAny_callSpecial?_slot (name:=Str.ofString "__next__") hi.typeIs F.slot_tuple_iterator_next (wpAny_call_entry F.slot_tuple_iterator_next hi.typeIs F.entry_tuple_iterator_next ?_ (F.args_tuple_iterator_next_1 _)))
 show wpAny (model prog w) _ (field (.ref it) 0 >>= _) _ _ s
 &wpAny_bind (wpAny_field g1 g3 (x:=.ref tt) rfl ?_)
 show wpAny (model prog w) _ (if (Value.ref tt == Value.none)=true then _ else _) _ _ s
 rw [if_neg (show ¬((Value.ref tt == Value.none)=true)by #Bool.false_ne_true)]
 show wpAny (model prog w) _ (field (.ref it) 1 >>= _) _ _ s
 &wpAny_bind (wpAny_field g1 g3 (x:=.int k 0) rfl ?_)
 show wpAny (model prog w) _ (seqItems? (.ref tt) >>= _) _ _ s
 &wpAny_bind (wpAny_seqItems k1 k3 ?_)
 simp only [hx,Int.toNat_natCast]
 &wpAny_bind (wpAny_rule (wpAny_bind (wpAny_setField g1 g3 (by simp) ?_)))
 show wpAny (model prog w) _ (newExc (.type "StopIteration") [] >>= _) _ _ _
 &wpAny_bind ?_
 simp only [newTuple,newExc]
 &wpAny_bind (wpAny_newObj_type ?_ (by size_fits))
 &wpAny_bind (m:=firstArgMember _ _) (wpAny_of_eq (a:=Value.none) (by first | (simp only [firstArgMember];rfl) | rfl) ?_)
 &wpAny_newObj_type ?_ (by size_fits)
 simp only [raiseNew]
 &wpAny_bind (wpAny_handled ?_)
 first | rw [hh] | rw [show A.in1.handled=none from hh]
 &wpAny_bind (wpAny_pure (wpAny_throw ?_))
 &hE _ _ (((Heap.SameBut.update ..).extBut.push _).push _) ⟨_,Heap.get?_push_size _ rfl,rfl⟩
end
&tupDraws {prog:Program}{w:World}{A:Around}(hh:A.handled=none)(it tt:Addr)(hne:tt≠it)(its:Array Value) :
  Draws prog w A it [it,tt] its.size (fun i v=>its[i]? =some v) (fun i h=>h.IsTupleIter it tt i/\h.IsTuple tt its) where
 live:=fun _ _ st=>by &⟨o,ho,_⟩:=st.1;#⟨o,ho⟩
 frame:=fun _ _ _ st hk=>by
  &⟨⟨o,e,r⟩,⟨o',e',r'⟩⟩:=st
  #⟨⟨o,hk it (by simp) o e,r⟩,⟨o',hk tt (by simp) o' e',r'⟩⟩
 item:=fun i s Q E hi st hQ=>by
  &tupNext st.1 st.2 (x:=its[i]) (by simp [hi]) fun h' hit' hs'=> ?_
  &⟨o',e',r'⟩:=st.2
  #hQ _ h' s.toks (by simp [hi]) ⟨hit',⟨o',(hs'.2 tt hne).trans e',r'⟩⟩ hs'
 done:=fun s Q E st hE=>tupStop hh st.1 st.2 (by simp) hE
&newT (l:Addr)(items:Array Value)(n:Nat)(dct:Option Addr)(sl:Array (Option Value)) :
  Meets (Builtin.«enumerate.__new__» ⟨[.type "enumerate",.ref l],[]⟩) (fun _ R s=>s.heap.get? l=some { cls:=.type "tuple",dict:=dct,data:=.seq items n,slots:=sl } ∧
   R (.ok (.ret (.ref (s.heap.push { cls:=.type "tuple_iterator",data:=.fields #[.ref l,.int 0 0] }).objs.size)))
    { s with heap:=(s.heap.push { cls:=.type "tuple_iterator",data:=.fields #[.ref l,.int 0 0] }).push { cls:=.type "enumerate",data:=.fields #[.none,.bool false,.ref s.heap.objs.size,rawInt 0,.none,.none] } }):=
 .of_wp fun prog w A R s h=>by
  &⟨hp,g,d,tk,os⟩:=s;&⟨hl,h⟩:=h
  have hsub:=sub_enumerate
  have hT:Heap.IsTuple (Shared.heap ⟨hp,g,d,tk,os⟩) l items:=⟨_,hl,rfl,n,rfl⟩
  wp_walk using wpAny_loadPart' hl
  &wpAny_stack_any fun st=>wpAny_pure ?_
  split
  ·rename_i c _ _ _ _ _
   cases (c == Value.type "enumerate")
   ·wp_walk using wpAny_loadPart' hl,wpAny_pyIter_tuple hT
    #⟨_,rfl,h⟩
   ·wp_walk using wpAny_loadPart' hl,wpAny_pyIter_tuple hT
    #⟨_,rfl,h⟩
  ·wp_walk using wpAny_loadPart' hl,wpAny_pyIter_tuple hT
   #⟨_,rfl,h⟩
&callT {prog:Program}{w:World}{A:Around}{E:Value->Shared->Prop}{s:Shared}{l:Addr}{items:Array Value}{Q:Value->Shared->Prop}(hL:s.heap.IsTuple l items)
  (h:∀ h',IsEnum h' (s.heap.objs.size+1) s.heap.objs.size 0 .none->h'.IsTupleIter s.heap.objs.size l 0->h'.objs.size=s.heap.objs.size+2 →
   (∀b o,s.heap.get? b=some o->h'.get? b=some o)->Q (.ref (s.heap.objs.size+1)) { s with heap:=h' }):wpAny (model prog w) A (call (.type "enumerate") [.ref l]) Q E s:=by
 &⟨⟨cc,dc,dd,ss⟩,hl,hc,n,hd⟩:=hL
 replace hc:cc= .type "tuple":=hc
 replace hd:dd= .seq items n:=hd
 subst hc hd
 &callType_new F.called_enumerate (by decide) (F.typeCall_enumerate_1 _) (F.newCall_enumerate_1 _) (fun obj=>F.args_object_init_2 obj _) F.entry_enumerate_new (newT l items n dc ss) ⟨hl,?_⟩
 have hz:(s.heap.push { cls:=.type "tuple_iterator",data:=.fields #[.ref l,.int 0 0] }).objs.size=s.heap.objs.size+1:=Heap.size_push ..
 show _/\_
 rw [hz]
 have he:IsEnum ((s.heap.push { cls:=.type "tuple_iterator",data:=.fields #[.ref l,.int 0 0] }).push
   { cls:=.type "enumerate",data:=.fields #[.none,.bool false,.ref s.heap.objs.size,rawInt 0,.none,.none] }) (s.heap.objs.size+1) s.heap.objs.size 0 .none:=by
  have q:=Heap.get?_push_size (s.heap.push { cls:=.type "tuple_iterator",data:=.fields #[.ref l,.int 0 0] })
   (o:={ cls:=.type "enumerate",data:=.fields #[.none,.bool false,.ref s.heap.objs.size,rawInt 0,.none,.none] }) rfl
  rw [hz]at q;#q
 &⟨⟨_,he,rfl⟩,h _ he ⟨_,Heap.get?_push_of_some _ (Heap.get?_push_size _ rfl),rfl,rfl⟩ (by rw [Heap.size_push,hz]) fun b o x=>Heap.get?_push_of_some _ (Heap.get?_push_of_some _ x)⟩
end Enu
namespace L2
open PySem PySem.Spec PyProof.Rows
section
variable {X:Cx}{pins:List (Addr×Obj)}{σ:L2.St}{H:Hp}{s:Shared}{h':Heap}
&Inv.turnedT {t':Nat}{fp:List Addr}{Tp:Addr}{xs:List V}(I:Inv X pins σ H s)(hf:∀ b∈fp,nQ X pins H b)(k:∀ b o,b∉fp->s.heap.get? b=some o->h'.get? b=some o)
  (ht:∀ b∈fp,∃o,h'.get? b=some o) (hT:s.heap.objs.size<=Tp) (new:ObjOk X.prog X.w (upd H Tp (.tup xs)) h' Tp (.tup xs)):Inv X pins σ (upd H Tp (.tup xs)) { s with heap:=h',toks:=t' }:=by
 have hn:H Tp=none:=I.hok.fresh hT
 have lz:∀ b o,s.heap.get? b=some o->b≠Tp:=fun b o e=>Nat.ne_of_lt (Nat.lt_of_lt_of_le (Heap.lt_size e) hT)
 have nf:∀ b u,H b=some u->b∉fp:=fun b u e z=>by rw [(hf b z).1]at e;cases e
 &I.step (g':=s.gens) (d':=s.drawn) (ch:=fp) (fun b hb=>⟨(hf b hb).2.2.2.1,(hf b hb).2.1,(hf b hb).2.2.2.2.1,(hf b hb).2.2.2.2.2⟩) (fun b o _ _ hc e _=>k b o hc e) (fun b o _ _ hc e _=>⟨o.slots,k b o hc e⟩)
  (fun b o _ e n=>by rw [aF (lz b o e)];#n) (fun b o hc e=>⟨o,k b o hc e⟩) (fun b ys e=>by rw [aF (bZ e hn)];#e) (fun b o u e=>by rw [aF (bZ e hn)];#e)
  (fun b ps e=>⟨#[],by rw [aF (bZ e hn),e];simp⟩) (fun m hm=> ?_) (fun b u e=> ?_) I.bare
 ·&⟨o,es,ep,ho,r⟩:=hm
  #⟨o,es,ep,k _ o (fun z=>(hf _ z).2.1 rfl) ho,r⟩
 ·by_cases hb:b=Tp
  ·subst hb;rw [aG]at e;cases e;#new
  ·rw [aF hb]at e
   &(I.hok b u e).stay (fun c v hc q=>k c v ?_ q) (fun c q=>by rw [aF (bZ q hn)];#q) fun c ys q=>by rw [aF (bZ q hn)];#q
   rcases hc with z | z
   ·rw [z];#nf b u e
   ·#nf c _ z
&Inv.turnedL {t':Nat}{fp:List Addr}(I:Inv X pins σ H s)(hf:∀ b∈fp,nQ X pins H b)(k:∀ b o,b∉fp->s.heap.get? b=some o->h'.get? b=some o):Inv X pins σ H { s with heap:=h',toks:=t' }:=by
 have nf:∀ b u,H b=some u->b∉fp:=fun b u e z=>by rw [(hf b z).1]at e;cases e
 &I.step (g':=s.gens) (d':=s.drawn) (ch:=fp) (fun b hb=>⟨(hf b hb).2.2.2.1,(hf b hb).2.1,(hf b hb).2.2.2.2.1,(hf b hb).2.2.2.2.2⟩) (fun b o _ _ hc e _=>k b o hc e) (fun b o _ _ hc e _=>⟨o.slots,k b o hc e⟩)
  (fun b o _ e n=>n) (fun b o hc e=>⟨o,k b o hc e⟩) (fun b ys e=>e) (fun b o u e=>e)
  (fun b ps e=>⟨#[],by rw [e];simp⟩) (fun m hm=> ?_) (fun b u e=> ?_) I.bare
 ·&⟨o,es,ep,ho,r⟩:=hm
  #⟨o,es,ep,k _ o (fun z=>(hf _ z).2.1 rfl) ho,r⟩
 ·&(I.hok b u e).stay (fun c v hc q=>k c v ?_ q) (fun c q=>q) fun c ys q=>q
  rcases hc with z | z
  ·rw [z];#nf b u e
  ·#nf c _ z
end
def SqX (K:PySem.W.Frag)(H:Hp)(a:Addr)(tt:Bool)(xs:List V):Prop:=if tt then SqT K H a xs else SqL K H a xs
def Ite (K:PySem.W.Frag)(a:Addr)(tt:Bool):It:=
 ⟨fun i H=> ∃xs x,SqX K H a tt xs/\xs[i]? =some x,fun i H x H'=> ∃p v,x= .ref p/\H p=none/\H'=upd H p (.tup [.int (i:Nat),v])/\∀ xs,SqX K H a tt xs->xs[i]? =some v,fun i H=> ∃xs,SqX K H a tt xs/\xs.length<=i⟩
def itAt (tt:Bool)(h:Heap)(it a:Addr)(i:Nat):Prop:=if tt then h.IsTupleIter it a i else h.IsListIter it a i
&itAt.obj {tt:Bool}{h:Heap}{it a:Addr}{i:Nat}(st:itAt tt h it a i):∃ o,h.get? it=some o/\∀ v,o.data≠ .cell v:=by
 cases tt with
 | true=>&⟨o,e,c,d⟩:=(show h.IsTupleIter it a i from st);#⟨o,e,fun v z=>by rw [d]at z;cases z⟩
 | false=>&⟨o,e,c,d⟩:=(show h.IsListIter it a i from st);#⟨o,e,fun v z=>by rw [d]at z;cases z⟩
&itAt.keep {tt:Bool}{h h':Heap}{it a:Addr}{i:Nat}(st:itAt tt h it a i)(k:∀ o,h.get? it=some o->h'.get? it=some o):itAt tt h' it a i:=by
 cases tt with
 | true=>&⟨o,e,r⟩:=(show h.IsTupleIter it a i from st);#(show h'.IsTupleIter it a i from⟨o,k o e,r⟩)
 | false=>&⟨o,e,r⟩:=(show h.IsListIter it a i from st);#(show h'.IsListIter it a i from⟨o,k o e,r⟩)
&vh {P:Program}{w:World}{K:PySem.W.Frag}{elts:List Expr}{kk:Nat}{pos:Pos}(tt:Bool)(a e it:Addr)(hei:e≠it) :
  yW P w K (.Tuple elts kk pos) (Ite K a tt) [e,it] e (fun i h=>(∃old,IsEnum h e it i old)/\itAt tt h it a i) where
 mem:=by simp
 obj:=fun i h st b hb=>by
  &⟨⟨old,he⟩,hi⟩:=st
  rcases List.mem_cons.mp hb with rfl | hb
  ·#⟨_,he,fun v z=>by have z':Data.fields _=Data.cell v:=z;cases z'⟩
  ·rw [List.mem_singleton.mp hb];#hi.obj
 keep:=fun i h h' st k=>by
  &⟨⟨old,he⟩,hi⟩:=st
  #⟨⟨old,k e (by simp) _ he⟩,hi.keep fun o q=>k it (by simp) o q⟩
 item:=by
  intro X hP hw hK hc i pins s σ H E I hf st hg
  subst hP hw hK
  &⟨xs,x,hq,hx⟩:=hg
  &⟨⟨old,he⟩,hi⟩:=st
  -- by what is walked
  have key:∀ (its:List Value),Vals xs its->(∀ys,SqX X.K H a tt ys->ys=xs)->∀ (fp0:List Addr) (St:Nat->Heap->Prop),Draws X.prog X.w X.A.in1 it fp0 its.toArray.size (fun i v=>its.toArray[i]? =some v) St->e∉fp0->it∈fp0->St i s.heap →
    (∀h',St (i+1) h'->itAt tt h' it a (i+1)) →
    wpAny (model X.prog X.w) X.A (pyNext (.ref e)) (fun r s1=> ∃u,r=some u/\wpAny (model X.prog X.w) X.A (letOwnedTupleGo (.Tuple elts kk pos) (.ref e) u) (fun _ s2=> ∃x' H',Inv X pins σ H' s2/\RelV x' u/\(Ite X.K a tt).yld i H x' H' ∧
     ((∃old,IsEnum s2.heap e it (i+1:Nat) old)/\itAt tt s2.heap it a (i+1))/\∀ b∈ [e,it],H' b=none) E s1) E s:=by
   intro its rv uniq fp0 St D hef hif hst hnext
   &⟨u,hu,ru⟩:=rv.get hx
   have hlt:i<its.toArray.size:=by
    have:=(List.getElem?_eq_some_iff.mp hu).1
    simpa using this
   have W:=WalksT.enumerateD D e hei hef hif
   &W.item i s _ _ hlt ⟨⟨old,he⟩,hst⟩ fun Tp vals h1 tk hPt hTsz hTup hMid hk=>⟨.ref Tp,rfl,?_⟩
   &W.go elts kk pos i Tp { s with heap:=h1,toks:=tk } _ _ hMid fun h2 hst2 hk2=> ?_
   &⟨t,x',hPx,hvals⟩:=hPt
   subst hvals
   have hxe:x'=u:=by
    have h1':its.toArray[i]? =some x':=hPx
    have h2':its.toArray[i]? =some u:=by simpa using hu
    rw [h1']at h2';#Option.some.inj h2'
   subst hxe
   have hTw:=W.apart i Tp h1 hMid
   &⟨oT,eT,rT⟩:=hTup
   have eT2:h2.get? Tp=some oT:=hk2 Tp oT hTw eT
   have kAll:∀ b o,b∉ [e,it]->s.heap.get? b=some o->h2.get? b=some o:=fun b o hb q=>hk2 b o hb (hk b o hb q)
   &⟨⟨old2,he2⟩,hs2⟩:=hst2
   have hit2:=hnext h2 hs2
   have there:∀ b∈ [e,it],∃o,h2.get? b=some o:=fun b hb=>by
    rcases List.mem_cons.mp hb with rfl | hb
    ·#⟨_,he2⟩
    ·rw [List.mem_singleton.mp hb];&⟨o,q,_⟩:=hit2.obj;#⟨o,q⟩
   have hn:H Tp=none:=I.hok.fresh hTsz
   have new:ObjOk X.prog X.w (upd H Tp (.tup [.int (i:Nat),x])) h2 Tp (.tup [.int (i:Nat),x]):=
    ⟨by show 2<=sizeLine;decide,[.int (i:Nat) t,x'],.cons ⟨t,rfl⟩ (.cons ru .nil),⟨oT,eT2,rT⟩⟩
   have I2:=I.turnedT (t':=tk) hf kAll there hTsz new
   &⟨.ref Tp,_,I2,rfl,⟨Tp,x,rfl,hn,rfl,fun ys hy=>by rw [uniq ys hy];#hx⟩,⟨⟨old2,he2⟩,hit2⟩,fun b hb=> ?_⟩
   have hbT:b≠Tp:=fun z=>by
    obtain⟨o,q⟩:∃ o,s.heap.get? b=some o:=by
     rcases List.mem_cons.mp hb with rfl | hb
     ·#⟨_,he⟩
     ·rw [List.mem_singleton.mp hb];&⟨o,q,_⟩:=hi.obj;#⟨o,q⟩
    #absurd (Nat.lt_of_lt_of_le (Heap.lt_size q) hTsz) (by rw [z];#Nat.lt_irrefl _)
   rw [aF hbT]
   #(hf b hb).1
  have hne:∀ b∈ [e,it],a≠b:=fun b hb z=>by
   have hb':=(hf b hb).1
   rw [<-z]at hb'
   have hbs:=hf b hb
   cases tt with
   | true=>
    have hq':SqT X.K H a xs:=hq
    rcases hq' with(q | ⟨o,q⟩) | ⟨o,its,n,q,_⟩
    ·rw [hb']at q;cases q
    ·rw [hb']at q;cases q
    ·rcases hbs.2.2.2.1 with z1 | z1
     ·#I.ok.noex a o (I.ok.mod.kin a o q) (z▸z1)
     ·#absurd (Nat.lt_of_lt_of_le (Heap.lt_size (I.ok.bs a o (I.ok.mod.kin a o q)).1) (z▸z1)) (Nat.lt_irrefl _)
   | false=>
    have hq':SqL X.K H a xs:=hq
    rcases hq' with(q | ⟨o,q⟩) | ⟨o,its,n,q,_⟩
    ·rw [hb']at q;cases q
    ·rw [hb']at q;cases q
    ·rcases hbs.2.2.2.1 with z1 | z1
     ·#I.ok.noex a o (I.ok.mod.kin a o q) (z▸z1)
     ·#absurd (Nat.lt_of_lt_of_le (Heap.lt_size (I.ok.bs a o (I.ok.mod.kin a o q)).1) (z▸z1)) (Nat.lt_irrefl _)
  have hea:e≠a:=fun z=>hne e (by simp) z.symm
  have hia:it≠a:=fun z=>hne it (by simp) z.symm
  cases tt with
  | true=>
   have hq':SqT X.K H a xs:=hq
   &⟨its,rv,p,hz⟩:=I.tuple hq'
   #key its rv (fun ys hy=>I.tuple_inj hy hq') _ _ (Enu.tupDraws (A:=X.A.in1) (I.ok.hd hc) it a (Ne.symm hia) its.toArray) (by simp [hei,hea]) (by simp) ⟨hi,p⟩ fun h' z=>z.1
  | false=>
   have hq':SqL X.K H a xs:=hq
   &⟨its,rv,p,hz⟩:=I.list hq'
   #key its rv (fun ys hy=>I.list_inj hy hq') _ _ (Draws.list (A:=X.A.in1) (I.ok.hd hc) it a (Ne.symm hia) its.toArray) (by simp [hei,hea]) (by simp) ⟨hi,p.isList⟩ fun h' z=>z.1
 done:=by
  intro X hP hw hK hc i pins s σ H E I hf st hg
  subst hP hw hK
  &⟨xs,hq,hx⟩:=hg
  &⟨⟨old,he⟩,hi⟩:=st
  have fin:∀ h',Heap.ExtBut it s.heap h'->(none:Option Value)=none/\Inv X pins σ H { s with heap:=h' }:=fun h' eb=>⟨rfl,I.turnedL (t':=s.toks) hf fun b o hb q=>eb b o (fun z=>hb (by simp [z])) q⟩
  cases tt with
  | true=>
   have hq':SqT X.K H a xs:=hq
   &⟨its,rv,p,hz⟩:=I.tuple hq'
   have hl:=rv.length
   have hnone:its.toArray[i]? =none:=by simp;omega
   have hT:s.TypeIs (.ref e) "enumerate":=⟨_,he,rfl⟩
   #,pyNext
   &wpAny_bind (wpAny_attempt (wpAny_callSpecial?_slot (name:=Str.ofString "__next__") hT F.slot_enumerate_next (wpAny_call_entry F.slot_enumerate_next hT F.entry_enumerate_next ?_ (F.args_enumerate_next_1 _))))
   show wpAny (model X.prog X.w) _ (field (.ref e) 2 >>= _) _ _ _
   &wpAny_bind (wpAny_field he rfl (x:=.ref it) rfl ?_)
   &wpAny_bind (Enu.tupStop (I.ok.hd hc) hi p hnone fun h' x he' hx'=> ?_)
   &⟨o,ho,hcl⟩:=hx'
   #wpAny_bind (wpAny_isInstance (T:="StopIteration") (b:=true) ⟨o,ho,hcl⟩ isSubtype_stop (wpAny_pure (fin h' he')))
  | false=>
   have hq':SqL X.K H a xs:=hq
   &⟨its,rv,p,hz⟩:=I.list hq'
   have hl:=rv.length
   have hnone:its.toArray[i]? =none:=by simp;omega
   #wpAny_pyNext_enum_end (I.ok.hd hc) he hi p.isList hnone fin
 self:=fun _ _ _ _ _ st h=>by
  &⟨⟨old,he⟩,_⟩:=st
  #wpAny_pyIter_enum he h
section
variable {X:Cx}{elts:List Expr}{kk:Nat}{tpos:Pos}
&nG:bootBuiltins "enumerate" =some (.type "enumerate"):=by decide+kernel
def iEnu (K:PySem.W.Frag)(tl:TA):TI:=fun σ H R=>tl σ H fun vs H1=> ∃a tt,vs= [.ref a]/\(∃xs,SqX K H1 a tt xs)/\R (Ite K a tt) H1
&pi_enum {l:Expr}{tl:TA}{p pos:Pos}(hg:Gl X "enumerate")(hm:X.mg "enumerate" =none)(hl:PA X [l] tl)(hs:starEach [l] X.env= [(false,eval l X.env)]:=by rfl):PI X (.Tuple elts kk tpos) (.Call (.Name "enumerate" p) [l] [] pos) (iEnu X.K tl):=by
 intro pins s σ H R I h
 &Call_ (ge I hg hm nG (PyProof.Rows.callWith_type1 (bU (hl pos pins s σ H _ I h) fun us s1 ⟨vs,H1,I1,r1,q1⟩=> ?_) hs rfl))
 &⟨a,tt,e,⟨xs,hq⟩,q⟩:=q1
 subst e
 &⟨u,rfl,ru⟩:=jA r1
 cases ru
 have fin:∀ h',IsEnum h' (s1.heap.objs.size+1) s1.heap.objs.size 0 .none->itAt tt h' s1.heap.objs.size a 0->h'.objs.size=s1.heap.objs.size+2->(∀b o,s1.heap.get? b=some o->h'.get? b=some o) →
   wpAny (model X.prog X.w) X.A (pyIter (.ref (s1.heap.objs.size+1))) (PIE X pins σ (.Tuple elts kk tpos) R) X.xe { s1 with heap:=h' }:=fun h' he hi hsz hk=>by
  &wpAny_pyIter_enum he ?_
  have I2:Inv X pins σ H1 { s1 with heap:=h' }:=I1.kept (t':=s1.toks) hk
  &⟨s1.heap.objs.size+1,[s1.heap.objs.size+1,s1.heap.objs.size],_,_,H1,rfl,I2,vh tt a (s1.heap.objs.size+1) s1.heap.objs.size (Nat.succ_ne_self _),⟨⟨_,he⟩,hi⟩,fun b hb=> ?_,q⟩
  rcases List.mem_cons.mp hb with rfl | hb
  ·#I1.fpOk (by omega) (I1.hok.fresh (by omega))
  ·rw [List.mem_singleton.mp hb];#I1.fpOk (Nat.le_refl _) (I1.hok.fresh (Nat.le_refl _))
 cases tt with
 | true=>
  have hq':SqT X.K H1 a xs:=hq
  &⟨its,rv,pl,hz⟩:=I1.tuple hq'
  #Enu.callT pl fun h' he hi hsz hk=>fin h' he hi hsz hk
 | false=>
  have hq':SqL X.K H1 a xs:=hq
  &⟨its,rv,pl,hz⟩:=I1.list hq'
  #call_enumerate_list pl.isList fun h' he hi hsz hk=>fin h' he hi hsz hk
end
end L2
namespace Tr
open PySem PySem.Spec PyProof.Rows L2
section
variable {X:Cx}{a:Expr}{fa:En->Rs T}{fs:En->Rs (List T)}{p pos:Pos}
def iS (f:En->Rs T)(ρ:En):Rs (List T):=do
 let x <-f ρ
 match x with
 | .lst l=> .ok l
 | .tup l=> .ok l
 | _=> .bad
&qi_seq {tg:Expr}(ha:b9 X a fa):wq X tg a (iS fa):=by
 intro pins s σ H R I ⟨ρ,O,E,h⟩
 unfold iS at h
 cases q:fa ρ with
 | bad=>rw [q]at h;#h.elim
 | err c=>#ug ha pins s σ H R I ⟨ρ,O,E,by #,iL;rw [q]at h ⊢;#h⟩
 | ok x=>
  rw [q,aD]at h
  cases x with
  | lst l=>#ug ha pins s σ H R I ⟨ρ,O,E,by #,iL;rw [q];#h⟩
  | tup l=>#qi_tup ha pins s σ H R I ⟨ρ,O,E,by #,iT;rw [q];#h⟩
  | _=>#h.elim
def cp:Nat->List T->List T
 | _,[] => []
 | n,t::r=> .tup [.int n,t] ::cp (n+1) r
&oY:∀ (l:List T) (n i:Nat),(cp n l)[i]? =(l[i]?).map fun t=>T.tup [.int ((n+i:Nat):Int),t]
 | [],n,i=>by simp [cp]
 | t::l,n,0=>by simp [cp]
 | t::l,n,i+1=>by
  rw [cp,List.getElem?_cons_succ,oY l (n+1) i,List.getElem?_cons_succ]
  congr 2
  funext t
  congr 4
  omega
&oX:∀ (l:List T) (n:Nat),(cp n l).length=l.length
 | [],n=>rfl
 | t::l,n=>by rw [cp,List.length_cons,List.length_cons,oX l]
def iE (f:En->Rs (List T))(ρ:En):Rs (List T):=do
 let xs <-f ρ
 match xs with
 | [x] =>match x.items with
  | some l=> .ok (cp 0 l)
  | none=> .bad
 | _=> .bad
&qi_enum {elts:List Expr}{kk:Nat}{tpos:Pos}(hm:X.mg "enumerate" =none)(ha:qE X [a] fs)(hg:Gl X "enumerate":=by rfl)(hs:starEach [a] X.env= [(false,eval a X.env)]:=by rfl) :
  wq X (.Tuple elts kk tpos) (.Call (.Name "enumerate" p) [a] [] pos) (iE fs):=PI.imp (pi_enum hg hm ha hs) fun σ H R hh_=>by
 &⟨ρ,O,E,h⟩:=hh_
 &⟨ρ1,O1,E1,h1⟩:=fS E h
 &⟨ρ1,O1,E1,Post.mono h1 fun ts H1 s1 q vs r=> ?_⟩
 &⟨t',r',s',E',q'⟩:=q vs r
 split at q'
 ·rename_i x0
  &⟨v,rfl,rv⟩:=r'.one
  split at q'
  ·rename_i l hl
   have main:∀ (aa:Addr) (tt:Bool) (ws:List V),v= .ref aa->¬ O aa->Reps X.K O H1 l ws->SqX X.K H1 aa tt ws->(∀P Hc,SameO P H1 Hc->¬ P aa->SqX X.K Hc aa tt ws)->¬ Nw X.K H1 aa →
     ∃a tt,[v] = [V.ref a]/\(∃xs,SqX X.K H1 a tt xs)/\R (Ite X.K a tt) H1:=fun aa tt ws e n z sq mv nn=>by
    &⟨aa,tt,by rw [e],⟨ws,sq⟩,q' H1 (Same.refl H1) _ fun P O' hP hO i Hc hsm htr=> ?_⟩
    have hnP:¬ P aa:=fun y=>(hP aa y).elim n nn
    have sqc:=mv P Hc hsm hnP
    &⟨fun hi=>⟨ws,sqc,by rw [<-z.length,<-oX l 0];#hi⟩,fun t ht=> ?_⟩
    rw [oY]at ht
    cases e1:l[i]? with
    | none=>rw [e1]at ht;cases ht
    | some t0=>
     rw [e1]at ht
     cases ht
     &⟨v0,f1,f2⟩:=z.get e1
     &⟨⟨ws,v0,sqc,f1⟩,fun x Hc' y=> ?_⟩
     &⟨pp,vv,e2,hpn,e3,hy⟩:=y
     have:=hy ws sqc
     rw [f1]at this;cases this
     subst e2 e3
     &⟨aS hpn _,fY hpn (fun zz=> ?_) (Reps.cons_ (by simpa using Rep.int_ _) (Reps.cons_ (f2.move hP hO hsm) Reps.nil_))⟩
     &⟨o,w⟩:=htr pp zz
     rw [hpn]at w;cases w
   cases x0 with
   | tup m=>
    cases hl
    &⟨aa,ws,e,n,qq,z⟩:=Rep.tup_iff.mp rv
    #main aa true ws e n z (show SqT X.K H1 aa ws from SqT.of qq) (fun P Hc hsm hn=>show SqT X.K Hc aa ws from SqT.of (hsm _ _ qq hn)) fun w=>by rw [w.1]at qq;cases qq
   | lst m=>
    cases hl
    &⟨aa,ws,e,n,qq,z⟩:=Rep.lst_iff.mp rv
    #main aa false ws e n z (show SqL X.K H1 aa ws from SqL.of qq) (fun P Hc hsm hn=>show SqL X.K Hc aa ws from SqL.of (hsm _ _ qq hn)) fun w=>by rw [w.1]at qq;cases qq
   | scr m=>
    cases hl
    unfold Rep at rv
    &⟨aa,e,n,qq⟩:=rv
    #main aa false _ e n Reps.ints (show SqL X.K H1 aa _ from qq) (fun P Hc hsm hn=>show SqL X.K Hc aa _ from Tr.SqL.keep hsm hn qq) (Tr.SqL.nn qq)
   | _=>cases hl
  ·#q'.elim
 ·#q'.elim
end
end Tr
namespace Tm
open PySem PyProof.Rows
&kN:fillsNumberSlot (.type "tuple") "mul" =pure false:=
 PySem.fillsNumberSlot_seq (id:="tuple.__mul__") (r:=some (.builtin "tuple.__rmul__")) F.slot_tuple_mul.lookup (by decide+kernel) F.slot_tuple_rmul.lookup (by decide+kernel)
&pI:seqRepeat? (.type "tuple")=pure (some (.builtin "tuple.__mul__")):=by
 unfold seqRepeat?
 rw [PySem.seqSlot_of (T:="tuple") (name:="__mul__") (id:="tuple.__mul__") F.slot_tuple_mul.lookup (by decide+kernel),PySem.seqSlot_of (T:="tuple") (name:="__rmul__") (id:="tuple.__rmul__") F.slot_tuple_rmul.lookup (by decide+kernel)]
 rfl
&sU (a:Int)(t:Tok)(l:Addr)(items:Array Value)(n:Nat)(dd:Option Addr)(sl:Array (Option Value)) :
  Meets (Builtin.«int.__rmul__» ⟨[.int a t,.ref l],[]⟩) (fun _ R s=>s.heap.get? l=some { cls:=.type "tuple",dict:=dd,data:=.seq items n,slots:=sl }/\R (.ok (.ret Value.notImplemented)) s):=
 .of_wp fun prog w A R s h=>by &⟨hp,g,d,tk,os⟩:=s;&⟨hl,h⟩:=h;wp_walk;#⟨_,rfl,h⟩
open AutoSeq1 (wpAny_loadPart')
&xR (l:Addr)(items:Array Value)(n:Nat)(dd:Option Addr)(sl:Array (Option Value))(x:Int)(u:Tok)(h1:1<x)(h2:x<2 ^ 31)(hne:items.isEmpty=false)(hz:items.size*x.toNat<=sizeLine)
  (hz2:(List.foldl (fun a b=>a++b) #[] (List.replicate x.toNat items)).size<=sizeLine) :
  Meets (Builtin.«tuple.__mul__» ⟨[.ref l,.int x u],[]⟩) (fun _ R s=>s.heap.get? l=some { cls:=.type "tuple",dict:=dd,data:=.seq items n,slots:=sl } ∧
   R (.ok (.ret (Value.ref s.heap.objs.size))) { s with heap:=s.heap.push { cls:=Value.type "tuple",data:=Data.seq (List.foldl (fun a b=>a++b) #[] (List.replicate x.toNat items)) } }):=
 .of_wp fun prog w A R s h=>by
  &⟨hp,g,d,tk,os⟩:=s;&⟨hl,h⟩:=h
  have hT:IsTup hp l items:=⟨_,hl,rfl,n,rfl⟩
  have hx:((items.size:Nat):Int)*x=((items.size*x.toNat:Nat):Int):=by
   have e:x=((x.toNat:Nat):Int):=by omega
   rw [Int.natCast_mul,<-e]
  wp_walk using wpAny_loadPart' hl
  rw [if_neg (by simp;omega)]
  &wpAny_bind (tupleItemsOf_ (s:=⟨hp,g,d,tk,os⟩) hT ?_)
  dsimp only
  rw [if_neg (by rw [hne];simp;omega),if_neg (by rw [hne];simp;omega),hx,if_neg (by have:(sizeLine:Nat)<=1000000000:=(by decide);omega),if_neg (by #,Builtin.Tuple.tupleTooMany;rw [decide_eq_true_iff];omega)]
  &wpAny_bind (m:=Builtin.Tuple.tupleExact _) (wpAny_newObj_type ?_ hz2)
  #wpAny_pure ⟨_,rfl,h⟩
section
variable {prog:Program}{w:World}{A:Around}{E:Value->Shared->Prop}{s:Shared}
&mul_tuple {t:Addr}{vs:List Value}{k:Int}{tk:Tok}{Q:Value->Shared->Prop}(ht:IsTup s.heap t vs.toArray)(h1:1<k)(h2:k<2 ^ 31)(hv:vs≠ [])(hz:vs.length*k.toNat<=sizeLine)
  (h:Q (.ref s.heap.objs.size) { s with heap:=s.heap.push { cls:=.type "tuple",data:=.seq (List.replicate k.toNat vs).flatten.toArray } }) :
  wpAny (model prog w) A (binaryOp .Mult (.ref t) (.int k tk)) Q E s:=by
 &⟨⟨cls,dd,data,sl⟩,ho,hc,n,hd⟩:=id ht
 simp only at hc hd
 subst hc hd
 have e:List.foldl (fun a b=>a++b) #[] (List.replicate k.toNat vs.toArray)=(List.replicate k.toNat vs).flatten.toArray:=by
  have q:=L2.foldl_rep vs k.toNat []
  simpa using q
 &wpAny_binaryOp_repeat_ref (T:="tuple") (U:="int") (by decide) ⟨_,ho,rfl⟩ (fun s'=>typeIs_int s' k tk) kN F.fills_int_mul F.slot_int_rmul pI F.slot_int_index.lookup
  (call_meets F.slot_int_rmul (typeIs_int s k tk) F.entry_int_rmul (F.args_int_rmul_2 _ _) (sU k tk t vs.toArray n dd sl)
   ⟨ho,rfl,⟨_,ho,rfl⟩,call_meets F.slot_tuple_mul ⟨_,ho,rfl⟩ F.entry_tuple_mul (F.args_tuple_mul_2 _ _) (xR t vs.toArray n dd sl k tk h1 h2 (by simpa using hv) (by simpa using hz) (by rw [e,List.size_toArray,L2.len_rep,Nat.mul_comm];#hz)) ⟨ho,?_⟩⟩)
 rw [e]
 #h
end
end Tm
namespace Tr
open PySem PySem.Spec PyProof.Rows L2
section
variable {X:Cx}
def ba (x y:T):Rs T:=match x,y with
 | .tup l,.int k=>if 1<k/\k<2 ^ 31/\l≠ []/\l.length*k.toNat<=sizeLine then .ok (.tup (List.replicate k.toNat l).flatten)else .bad
 | x,y=>ti x y
instance (l:List T):Decidable (l≠ []):=by cases l <;> simp <;> infer_instance
&bw:OpT X (binaryOp .Mult) ba:=by
 intro pins s σ H O x y vx vy ux uy Q I hf rx ry r1 r2 hp
 unfold ba at hp
 split at hp
 ·rename_i l k
  split at hp
  ·rename_i h
   &⟨a,vs,e1,n1,q1,z1⟩:=Rep.tup_iff.mp rx
   subst e1
   cases Rep.int_iff.mp ry
   cases r1
   &⟨tk,rfl⟩:=r2
   &⟨its,rv,pl,hz⟩:=I.tuple (SqT.of q1)
   have hl1:=z1.length
   have hl2:=rv.length
   have hne:its≠ []:=fun z=>h.2.2.1 (List.eq_nil_of_length_eq_zero (by rw [hl1,hl2,z];rfl))
   &Tm.mul_tuple pl h.1 h.2.1 hne (by rw [<-hl2,<-hl1];#h.2.2.2) ?_
   have hn:=I.hok.fresh (Nat.le_refl _)
   &⟨.ref _,_,I.laid (t':=s.toks) (o:=.tup (List.replicate k.toNat vs).flatten) (fun b ob q=>Heap.get?_push_of_some _ q) (Nat.le_refl _) ?_,rfl,hp _ (aS hn _) _ (fY hn (hf _ hn) (z1.rep _))⟩
   &⟨?_,_,rv.rep k.toNat,IsTup.new _ _⟩
   rw [len_rep,Nat.mul_comm,<-hl1]
   #h.2.2.2
  ·#hp.elim
 ·#ot_mul pins s σ H O _ _ vx vy ux uy Q I hf rx ry r1 r2 hp
end
def lcOk (outer:List (Str×NameKind))(N:List Str)(names:List (Str×NameKind))(N':List Str)(src:List (Option Nat)):Bool:=
 names.all (fun y=>y.2 != .cell||names.lookup y.1 == some .cell)&&names.all (fun y=>y.2 != .local||names.lookup y.1 == some .local)&&src.length == N'.length&&
 (List.range N'.length).all (fun j=>match src[j]? with
  | some (some i)=>match N'[j]? with
   | some x=>N[i]? == some x&&names.lookup x == some .free
   | none=>true
  | _=>true)&&
 names.all (fun y=>y.2 != .free||(outer.lookup y.1 == some .cell||outer.lookup y.1 == some .free))
&LcScope.by {X:Cx}{scope:Scope}{N N':List Str}{src:List (Option Nat)}{names:List (Str×NameKind)}(hN:X.N=N)(hs:X.env.scope.names=names)(hk:scope.kind= .function)(h:lcOk names N scope.names N' src=true):LcScope X scope N' src:=by
 unfold lcOk at h
 simp only [Bool.and_eq_true]at h
 &⟨⟨⟨⟨h1,h2⟩,h3⟩,h4⟩,h5⟩:=h
 have a1:=List.all_eq_true.mp h1
 have a2:=List.all_eq_true.mp h2
 have a4:=List.all_eq_true.mp h4
 have a5:=List.all_eq_true.mp h5
 &⟨hk,fun y hy hl=>by have:=a1 y hy;rw [hl]at this;simpa using this,fun y hy hl=> ?_,by simpa using h3,fun j i x e1 e2=> ?_,fun x hx=> ?_⟩
 ·have:=a2 y hy
  rw [hl]at this
  simpa using this
 ·have hj:j<N'.length:=(List.getElem?_eq_some_iff.mp e2).1
  have:=a4 j (List.mem_range.mpr hj)
  rw [e1]at this
  simp only [e2]at this
  rw [Bool.and_eq_true]at this
  rw [hN]
  #⟨by simpa using this.1,by simpa using this.2⟩
 ·have:=a5 _ hx
  simp only [bne_self_eq_false,Bool.false_or,Bool.or_eq_true]at this
  show X.env.scope.names.lookup x=_\/X.env.scope.names.lookup x=_
  rw [hs]
  rcases this with z | z
  ·#.inl (by simpa using z)
  ·#.inr (by simpa using z)
def bx:Expr->Bool
 | .Starred .. =>false
 | _=>true
def bM:List Expr->Bool
 | [] =>true
 | e::r=>bx e&&bM r
&bh {e:Expr}{es:List Expr}{env:Env}(h:bx e=true):starEach (e::es) env=(false,eval e env)::starEach es env:=by
 cases e <;> first | rfl | cases h
&gK {pos:Pos}{env:Env}:∀ {es:List Expr},bM es=true->(backTo pos (starEach es env)).any (·.1)=false
 | [],_=>rfl
 | e::r,h=>by
  unfold bM at h
  rw [Bool.and_eq_true]at h
  rw [bh h.1]
  have ih:=gK (pos:=pos) (env:=env) h.2
  show(false||(backTo pos (starEach r env)).any (·.1))=false
  rw [ih];rfl
section
variable {X:Cx}{a b e:Expr}{es:List Expr}{fa:En->Rs T}{fs:En->Rs (List T)}{pos p p2:Pos}{x:Str}
&qa_c {f:En->Rs T}{g:En->Rs (List T)}(he:b9 X e f)(hr:qE X es g)(hn:bx e=true:=by rfl):qE X (e::es) (ac f g):=qa_cons he hr (bh hn)
&q_cB {id:String}{g:List T->Rs T}(hc:CallT X (.builtin id) g)(hm:X.mg x=none)(hv:bootBuiltins x=some (.builtin id))(ha:qE X (e::es) fs)(hn:bM (e::es)=true:=by rfl)(hg:Gl X x:=by rfl)(h1:x≠ "__name__":=by decide)(h2:(x == ("__debug__" : Str))=false:=by decide) :
  b9 X (.Call (.Name x p) (e::es) [] pos) (cl g fs):=by
 unfold bM at hn
 rw [Bool.and_eq_true]at hn
 #q_callB hc hm hv ha hg h1 h2 (bh hn.1) (gK hn.2)
&q_cT {Ty:String}{g:List T->Rs T}(hc:CallT X (.type Ty) g)(hm:X.mg x=none)(hv:bootBuiltins x=some (.type Ty))(ha:qE X (e::es) fs)(hn:bM (e::es)=true:=by rfl)(hg:Gl X x:=by rfl)(h1:x≠ "__name__":=by decide)(h2:(x == ("__debug__" : Str))=false:=by decide) :
  b9 X (.Call (.Name x p) (e::es) [] pos) (cl g fs):=by
 unfold bM at hn
 rw [Bool.and_eq_true]at hn
 #xh hc hm hv ha hg h1 h2 (bh hn.1) (gK hn.2)
&q_c {n k:Nat}{f:Addr}{fd:FuncData}{ps:List Str}{g:List T->Rs T}(F:zd X.prog X.w X.K X.mg X.base k f fd ps n g)(hr:Room k X.A)(hm:X.mg x=some (.ref f))(hk:PySem.W.keepIn X.K (.ref f)=true)(hb:Binds X.K fd ps [])
  (hl:∀ ρ ts,fs ρ= .ok ts->ts.length=n) (ha:qE X (e::es) fs) (hps:ps.length=n:=by rfl) (hn:bM (e::es)=true:=by rfl) (hg:Gl X x:=by rfl) (h2:(x == ("__debug__" : Str))=false:=by decide):b9 X (.Call (.Name x p) (e::es) [] pos) (cl g fs):=by
 unfold bM at hn
 rw [Bool.and_eq_true]at hn
 #q_call F hr hm hk hb hps hl ha hg h2 (bh hn.1) (gK hn.2)
&q_is {tn:Str}{Ty:String}(hm:X.mg "isinstance" =none)(hmt:X.mg tn=none)(hv:bootBuiltins tn=some (.type Ty))(ha:b9 X a fa)(hn:bx a=true:=by rfl)(hg:Gl X "isinstance":=by rfl)(hgt:Gl X tn:=by rfl)
  (h1:tn≠ "__name__":=by decide) (h2:(tn == ("__debug__" : Str))=false:=by decide):b9 X (.Call (.Name "isinstance" p) [a,.Name tn p2] [] pos) (o1 (nS Ty) fa):=
 q_isi hm hmt hv ha hg hgt h1 h2 (bh hn) (gK rfl) (bh rfl)
end
&aLen0 (ρ:En)(ts:List T)(h:ah ρ= .ok ts):ts.length=0:=by cases h;rfl
&aLenS {n:Nat}{f:En->Rs T}{g:En->Rs (List T)}(hg:∀ ρ ts,g ρ= .ok ts->ts.length=n)(ρ:En)(ts:List T)(h:ac f g ρ= .ok ts):ts.length=n+1:=by
 unfold ac at h
 cases q:f ρ with
 | bad=>rw [q]at h;cases h
 | err c=>rw [q]at h;cases h
 | ok t=>
  rw [q,aD]at h
  cases q2:g ρ with
  | bad=>rw [q2]at h;cases h
  | err c=>rw [q2]at h;cases h
  | ok r=>
   rw [q2,aD]at h
   cases h
   rw [List.length_cons,hg ρ r q2]
&hW {k:Nat}{A:Around}(h:Room k A):A.units+60<cLine:=by have:=h.un;omega
&hu61 {k:Nat}{A:Around}(h:Room k A):A.units+61<cLine:=by have:=h.un;omega
structure Fn (K:PySem.W.Frag)(mg:Str->Option Value)(x:Str)(st:Stmt)(ps:List Str)(f:Addr)(fd:FuncData):Prop where
 fn:L2.Fun K x x st f fd
 bd:Binds K fd ps []
 mg:mg x=some (.ref f)
def val (n m:Nat)(F:En->Rs Fl)(ts:List T):Rs T:=if ts.length=n then dt F (bp m ts)else .bad
&val_ok {n m:Nat}{F:En->Rs Fl}{ts:List T}{t:T}(h:val n m F ts= .ok t):dt F (bp m ts)= .ok t:=by
 unfold val at h
 split at h
 ·#h
 ·cases h
&sp_script {K:PySem.W.Frag}{H:Hp}{a:Addr}{ns:List Int}{g:List T->Rs T}{E:XK}(hS:SqL K H a (ns.map V.int))(h:g [.scr ns] = .ok (.bl true)):spP K 1 g [.ref a] H (fun v _=>v= .bl true) E:=by
 &⟨[.scr ns],fun _=>False,Reps.cons_ ?_ Reps.nil_,fun _ z=>z.elim,rfl,?_⟩
 ·#,Rep;#⟨a,rfl,fun z=>z,hS⟩
 ·rw [h];#fun v H' _ r=>Rep.bl_iff.mp r
&qV {α:Type}{l:List α}{i:Nat}{z:α}(h:l[i]? =some z):l.set i z=l:=by
 &⟨hi,rfl⟩:=List.getElem?_eq_some_iff.mp h
 #List.set_getElem_self hi
def Mn.set (M:Mn)(i:Nat)(m:Ow):Mn:=fun j=>if j=i then m else M j
&Mn.set_u {M:Mn}{i:Nat}{m:Ow}{a:Addr}(h:(M.set i m).u a):m a\/M.u a:=by
 &⟨j,h⟩:=h
 unfold Mn.set at h
 by_cases z:j=i
 ·rw [if_pos z]at h;#.inl h
 ·rw [if_neg z]at h;#.inr ⟨j,h⟩
&Mn.set_at {M:Mn}{i:Nat}{m:Ow}:M.set i m i=m:=by #,Mn.set;rw [if_pos rfl]
&Mn.set_ne {M:Mn}{i j:Nat}{m:Ow}(h:j≠i):M.set i m j=M j:=by #,Mn.set;rw [if_neg h]
&RowsR.move {K:PySem.W.Frag}{O O' P:Ow}{H H':Hp}(hP:∀ a,P a->O a\/Nw K H a)(hO:∀ a,O' a->O a\/Nw K H a)(h:SameO P H H'):∀ {rs:List (List T×List T)} {as:List Addr},(∀b∈as,¬P b)->RowsR K O H rs as->RowsR K O' H' rs as
 | [],_,_,r=>r
 | _::_,_,hb,⟨b,bs,kvs,e1,e2,e3,e4,e5⟩=>by
  subst e1
  #⟨b,bs,kvs,rfl,h _ _ e2 (hb b List.mem_cons_self),e3,e4.move hP hO h,e5.move hP hO h fun c hc=>hb c (List.mem_cons_of_mem _ hc)⟩
&ORep.move {K:PySem.W.Frag}{O O' P M:Ow}{H H':Hp}{o:OT}{v:V}(hP:∀ a,P a->O a\/Nw K H a)(hO:∀ a,O' a->O a\/Nw K H a)(h:SameO P H H')(hM:∀ a,M a->¬ P a)(r:ORep K O M H o v):ORep K O' M H' o v:=by
 cases o with
 | lst l=>&⟨a,vs,e1,e2,e3,e4⟩:=r;#⟨a,vs,e1,e2,h _ _ e3 (hM a ((e2 a).mpr rfl)),e4.move hP hO h⟩
 | dct ks ts=>&⟨a,kvs,e1,e2,e3,e4,e5⟩:=r;#⟨a,kvs,e1,e2,h _ _ e3 (hM a ((e2 a).mpr rfl)),e4,e5.move hP hO h⟩
 | dd ks rows=>
  &⟨a,kvs,as,e1,e2,e3,e4,e5,e6,e7,e8⟩:=r
  #⟨a,kvs,as,e1,e2,e3,e4,h _ _ e5 (hM a ((e2 a).mpr (.inl rfl))),e6,e7,e8.move hP hO h fun b hb=>hM b ((e2 b).mpr (.inr hb))⟩
&RowsR.mtb {K:PySem.W.Frag}{O:Ow}{H:Hp}:∀ {rs:List (List T×List T)} {as:List Addr},RowsR K O H rs as->∀ b∈as,∃kvs,H b=some (.dT kvs)
 | [],_,r,b,hb=>by unfold RowsR at r;subst r;simp at hb
 | _::_,_,⟨b0,bs,kvs,e1,e2,e3,e4,e5⟩,b,hb=>by
  subst e1
  rcases List.mem_cons.mp hb with rfl | hb
  ·#⟨kvs,e2⟩
  ·#e5.mtb b hb
def OT.isD:OT->Bool
 | .lst _=>false
 | _=>true
&ORep.kind {K:PySem.W.Frag}{O M:Ow}{H:Hp}{o:OT}{v:V}(r:ORep K O M H o v):∀ a,M a->if o.isD then ∃kvs,H a=some (.dT kvs)else ∃vs,H a=some (.lst vs):=fun a z=>by
 cases o with
 | lst l=>&⟨b,vs,e1,e2,e3,e4⟩:=r;cases (e2 a).mp z;#⟨vs,e3⟩
 | dct ks ts=>&⟨b,kvs,e1,e2,e3,e4,e5⟩:=r;cases (e2 a).mp z;#⟨kvs,e3⟩
 | dd ks rows=>
  &⟨b,kvs,as,e1,e2,e3,e4,e5,e6,e7,e8⟩:=r
  rcases(e2 a).mp z with z | z
  ·cases z;#⟨kvs,e5⟩
  ·#e8.mtb a z
&ORep.mtb {K:PySem.W.Frag}{O M:Ow}{H:Hp}{o:OT}{v:V}(r:ORep K O M H o v)(a:Addr)(z:M a):Mtb H a:=by
 have:=r.kind a z
 split at this
 ·#.inr this
 ·#.inl this
&rh {K:PySem.W.Frag}{O:Ow}{H:Hp}:∀ {rs:List (List T×List T)} {as:List Addr},(∀b∈as,¬O b)->RowsR K O H rs as->Reps K O H (rs.map fun r=>T.dct r.1 r.2) (as.map V.ref)
 | [],_,_,r=>by unfold RowsR at r;subst r;#Reps.nil_
 | _::_,_,hn,⟨b,bs,kvs,e1,e2,e3,e4,e5⟩=>by
  subst e1
  #Reps.cons_ (Rep.dct_iff.mpr ⟨b,kvs,rfl,hn b List.mem_cons_self,e2,e3,e4⟩) (rh (fun c hc=>hn c (List.mem_cons_of_mem _ hc)) e5)
&RowsR.less {K:PySem.W.Frag}{O O':Ow}{H:Hp}(sub:∀ a,O' a->O a):∀ {rs:List (List T×List T)} {as:List Addr},RowsR K O H rs as->RowsR K O' H rs as
 | [],_,r=>r
 | _::_,_,⟨b,bs,kvs,e1,e2,e3,e4,e5⟩=>⟨b,bs,kvs,e1,e2,e3,e4.less sub,e5.less sub⟩
&ORep.rep {K:PySem.W.Frag}{O O' M:Ow}{H:Hp}{o:OT}{v:V}(sub:∀ a,O' a->O a)(hn:∀ a,M a->¬ O' a)(r:ORep K O M H o v):Rep K O' H o.view v:=by
 cases o with
 | lst l=>&⟨a,vs,e1,e2,e3,e4⟩:=r;#Rep.lst_iff.mpr ⟨a,vs,e1,hn a ((e2 a).mpr rfl),e3,e4.less sub⟩
 | dct ks ts=>&⟨a,kvs,e1,e2,e3,e4,e5⟩:=r;#Rep.dct_iff.mpr ⟨a,kvs,e1,hn a ((e2 a).mpr rfl),e3,e4,e5.less sub⟩
 | dd ks rows=>
  &⟨a,kvs,as,e1,e2,e3,e4,e5,e6,e7,e8⟩:=r
  &Rep.dct_iff.mpr ⟨a,kvs,e1,hn a ((e2 a).mpr (.inl rfl)),e5,e6,?_⟩
  rw [e7]
  #rh (fun b hb=>hn b ((e2 b).mpr (.inr hb))) (e8.less sub)
section
variable {K:PySem.W.Frag}{B:Ow}{M:Mn}{H H':Hp}{ρ:En}{σ:L2.St}{i:Nat}{o o':OT}{v:V}{m:Ow}
&Ev.new (E:Ev K B M H ρ σ)(hl:i<ρ.length)(hm:∀ a,m a->Nw K H a)(s:Same H H')(r:ORep K (OO B (M.set i m)) m H' o v) :
  Ev K B (M.set i m) H' (ρ.set i (.ow o)) (σ.set i (some v))/\∀ a,(M.set i m).u a->M.u a\/Nw K H a:=by
 have hls:i<σ.length:=by rw [<-E.env.len];#hl
 have sub:∀ a,(M.set i m).u a->M.u a\/Nw K H a:=fun a z=>(Mn.set_u z).elim (fun w=> .inr (hm a w)) .inl
 have subO:∀ a,OO B (M.set i m) a->OO B M a\/Nw K H a:=fun a z=>z.elim (fun w=> .inl (.inl w)) fun w=>(sub a w).elim (fun y=> .inl (.inr y)) .inr
 have du:∀ a,Nw K H a->¬ OO B M a:=fun a w z=>by
  &⟨o,e⟩:=(E.env.trk a z).some
  rw [w.1]at e;cases e
 &⟨⟨⟨by rw [List.length_set,List.length_set];#E.env.len,fun j t e=> ?_,fun j o' e=> ?_,fun j a z=> .inr ⟨j,z⟩,fun j k a z1 z2=> ?_,fun a z=> ?_⟩,fun a z=> ?_⟩,sub⟩
 ·by_cases hj:i=j
  ·subst hj;rw [List.getElem?_set_self hl]at e;cases e
  ·rw [List.getElem?_set_ne hj]at e
   &⟨w,e1,e2⟩:=E.env.val j t e
   #⟨w,by rw [List.getElem?_set_ne hj];#e1,(e2.more subO).same s⟩
 ·by_cases hj:i=j
  ·subst hj
   rw [List.getElem?_set_self hl]at e
   cases e
   #⟨v,List.getElem?_set_self hls,by rw [Mn.set_at];#r⟩
  ·rw [List.getElem?_set_ne hj]at e
   &⟨w,e1,e2⟩:=E.env.own j o' e
   &⟨w,by rw [List.getElem?_set_ne hj];#e1,?_⟩
   rw [Mn.set_ne (fun z=>hj z.symm)]
   #(e2.move (P:=wn) (fun _ z=>z.elim) subO (fun b u q _=>q) fun _ _ z=>z).same s
 ·unfold Mn.set at z1 z2
  by_cases hj:j=i
  ·by_cases hk:k=i
   ·#hj.trans hk.symm
   ·rw [if_pos hj]at z1;rw [if_neg hk]at z2
    #(du a (hm a z1) (.inr ⟨k,z2⟩)).elim
  ·by_cases hk:k=i
   ·rw [if_neg hj]at z1;rw [if_pos hk]at z2
    #(du a (hm a z2) (.inr ⟨j,z1⟩)).elim
   ·rw [if_neg hj]at z1;rw [if_neg hk]at z2
    #E.env.dis j k a z1 z2
 ·rcases z with z | z
  ·#(E.env.trk a (.inl z)).same s
  ·rcases Mn.set_u z with w | w
   ·#r.mtb a w
   ·#(E.env.trk a (.inr w)).same s
 ·intro hb
  rcases Mn.set_u z with w | w
  ·#du a (hm a w) (.inl hb)
  ·#E.mine a w hb
&Ev.put (E:Ev K B M H ρ σ)(hi:ρ[i]? =some (.ow o))(hs:σ[i]? =some (some v))(s:SameO (M i) H H')(r:ORep K (OO B M) (M i) H' o' v):Ev K B M H' (ρ.set i (.ow o')) σ/\SameO M.u H H':=by
 have hl:i<ρ.length:=(List.getElem?_eq_some_iff.mp hi).1
 have inO:∀ a,M i a->OO B M a\/Nw K H a:=fun a z=> .inl (.inr ⟨i,z⟩)
 have idO:∀ a,OO B M a->OO B M a\/Nw K H a:=fun a z=> .inl z
 &⟨⟨⟨by rw [List.length_set];#E.env.len,fun j t e=> ?_,fun j o2 e=> ?_,E.env.sub,E.env.dis,fun a z=> ?_⟩,E.mine⟩,fun b u e n=>s b u e fun z=>n ⟨i,z⟩⟩
 ·by_cases hj:i=j
  ·subst hj;rw [List.getElem?_set_self hl]at e;cases e
  ·rw [List.getElem?_set_ne hj]at e
   &⟨w,e1,e2⟩:=E.env.val j t e
   #⟨w,e1,e2.move inO idO s⟩
 ·by_cases hj:i=j
  ·subst hj
   rw [List.getElem?_set_self hl]at e
   cases e
   #⟨v,hs,r⟩
  ·rw [List.getElem?_set_ne hj]at e
   &⟨w,e1,e2⟩:=E.env.own j o2 e
   #⟨w,e1,e2.move inO idO s fun a z y=>hj (E.env.dis i j a y z)⟩
 ·by_cases hz:M i a
  ·#r.mtb a hz
  ·rcases E.env.trk a z with⟨vs,e⟩ | ⟨kvs,e⟩
   ·#.inl ⟨vs,s _ _ e hz⟩
   ·#.inr ⟨kvs,s _ _ e hz⟩
def disown (i:Nat)(ρ:En):En:=match ρ[i]? with
 | some (.ow o)=>ρ.set i (.va o.view)
 | _=>ρ
&EnvM.disown {O O':Ow}{ρ:En}(E:EnvM K O M H ρ σ)(i:Nat)(sub:∀ a,O' a->O a)(hn:∀ a,M i a->¬ O' a)(hin:∀ j a,j≠i->M j a->O' a):EnvM K O' (M.set i wn) H (disown i ρ) σ:=by
 have base:EnvM K O' (M.set i wn) H (ρ.set i (match ρ[i]? with | some (.ow o)=> .va o.view | some x=>x | none=> .em)) σ:=by
  &⟨by rw [List.length_set];#E.len,fun j t e=> ?_,fun j o e=> ?_,fun j a z=> ?_,fun j k a z1 z2=> ?_,fun a z=>E.trk a (sub a z)⟩
  ·by_cases hj:i=j
   ·subst hj
    by_cases hl:i<ρ.length
    ·rw [List.getElem?_set_self hl]at e
     cases q:ρ[i]? with
     | none=>rw [q]at e;cases e
     | some z=>
      rw [q]at e
      cases z with
      | em=>cases e
      | va t'=>cases e;&⟨w,e1,e2⟩:=E.val i _ q;#⟨w,e1,e2.less sub⟩
      | ow o=>cases e;&⟨w,e1,e2⟩:=E.own i _ q;#⟨w,e1,e2.rep sub hn⟩
    ·rw [List.getElem?_eq_none (by rw [List.length_set];omega)]at e;cases e
   ·rw [List.getElem?_set_ne hj]at e
    &⟨w,e1,e2⟩:=E.val j t e
    #⟨w,e1,e2.less sub⟩
  ·by_cases hj:i=j
   ·subst hj
    by_cases hl:i<ρ.length
    ·rw [List.getElem?_set_self hl]at e
     cases q:ρ[i]? with
     | none=>rw [q]at e;cases e
     | some z=>
      rw [q]at e
      cases z with
      | em=>cases e
      | va t'=>cases e
      | ow o=>cases e
    ·rw [List.getElem?_eq_none (by rw [List.length_set];omega)]at e;cases e
   ·rw [List.getElem?_set_ne hj]at e
    &⟨w,e1,e2⟩:=E.own j o e
    &⟨w,e1,?_⟩
    rw [Mn.set_ne (fun z=>hj z.symm)]
    #e2.move (P:=wn) (fun _ z=>z.elim) (fun a z=> .inl (sub a z)) (fun b u q _=>q) fun _ _ z=>z
  ·unfold Mn.set at z
   by_cases hj:j=i
   ·rw [if_pos hj]at z;#z.elim
   ·rw [if_neg hj]at z;#hin j a hj z
  ·unfold Mn.set at z1 z2
   by_cases hj:j=i
   ·rw [if_pos hj]at z1;#z1.elim
   ·by_cases hk:k=i
    ·rw [if_pos hk]at z2;#z2.elim
    ·rw [if_neg hj]at z1;rw [if_neg hk]at z2;#E.dis j k a z1 z2
 #,Tr.disown
 cases q:ρ[i]? with
 | none=>rw [q,List.set_eq_of_length_le (List.getElem?_eq_none_iff.mp q)]at base;#base
 | some z=>
  rw [q]at base
  cases z with
  | em=>rw [qV q]at base;#base
  | va t=>rw [qV q]at base;#base
  | ow o=>#base
&Ev.disown (E:Ev K B M H ρ σ)(i:Nat):Ev K B (M.set i wn) H (disown i ρ) σ/\∀ a,(M.set i wn).u a->M.u a:=by
 have sub:∀ a,(M.set i wn).u a->M.u a:=fun a z=>(Mn.set_u z).elim (fun w=>w.elim) id
 &⟨⟨E.env.disown i (fun a z=>z.elim .inl fun w=> .inr (sub a w)) (fun a z y=> ?_) fun j a hj z=> .inr ⟨j,by rw [Mn.set_ne hj];#z⟩,fun a z=>E.mine a (sub a z)⟩,sub⟩
 rcases y with y | ⟨j,y⟩
 ·#E.mine a ⟨i,z⟩ y
 ·unfold Mn.set at y
  by_cases hj:j=i
  ·rw [if_pos hj]at y;#y
  ·rw [if_neg hj]at y;#hj (E.env.dis j i a y z)
end
section
variable {X:Cx}{a:Expr}{es:List Expr}{fa:En->Rs T}{pos p2 p3:Pos}{x:Str}
&Ev.subO {K:PySem.W.Frag}{B:Ow}{M:Mn}{H:Hp}{i:Nat}{m:Ow}(hm:∀ a,m a->Nw K H a)(a:Addr)(z:OO B (M.set i m) a):OO B M a\/Nw K H a:=
 z.elim (fun w=> .inl (.inl w)) fun w=>(Mn.set_u w).elim (fun y=> .inr (hm a y)) fun y=> .inl (.inr y)
&kj {K:PySem.W.Frag}{H H1:Hp}(s:Same H H1){a:Addr}(n:Nw K H1 a):Nw K H a:=(gZ (SameO.of (P:=wn) s) n).elim (fun z=>z.elim) id
def tLstN (X:Cx)(t:TA):TE:=fun σ H Q=>t σ H fun xs H1=>xs.length<=sizeLine/\∀ p,Nw X.K H1 p->Q (.ref p) (upd H1 p (.lst xs))
&pe_lstN {t:TA}(h:PA X es t):PE X (.List es pos) (tLstN X t):=by
 intro pins s σ H Q I hq
 &wpAny_List_spliced (bU (h pos pins s σ H _ I hq) fun us s1 ⟨xs,H1,I1,r,z,q⟩=>⟨by rw [<-r.length];#z,?_⟩)
 have hf:H1 s1.heap.objs.size=none:=I1.hok.fresh (Nat.le_refl _)
 have hk:X.K.lookup s1.heap.objs.size=none:=by
  cases q:X.K.lookup s1.heap.objs.size with
  | none=>rfl
  | some o=>#absurd (Heap.lt_size (I1.kIn _ o q)) (Nat.lt_irrefl _)
 &⟨.ref s1.heap.objs.size,upd H1 s1.heap.objs.size (.lst xs),I1.laid (t':=s1.toks) (fun b u e=>Heap.get?_push_of_some _ e) (Nat.le_refl _) ?_,rfl,q _ ⟨hf,hk⟩⟩
 #⟨z,us,0,r,Heap.get?_push_size _ rfl⟩
def iF (i:Nat)(f:En->Rs (List T))(ρ:En):Rs Fl:=do
 let l <-f ρ
 if i<ρ.length/\l.length<=sizeLine then .ok (.nx (ρ.set i (.ow (.lst l))))else .bad
&qs_newL (i:Nat){f:En->Rs (List T)}(hN:X.N.Nodup)(ha:qE X es f)(hi:X.N[i]? =some x:=by rfl)(hx:Loc X.env.scope x:=by first | #Or.inl rfl | #Or.inr rfl)(hs:swapsWith (.List es p2) (some (.Name x p3)) pos.line X.env=pure false:=by rfl)
  (hf:X.fn x=true\/X.env.scope.names.lookup x=some .local:=by first | #.inl rfl | #.inr rfl | assumption):nT X (.Assign [.Name x p3] (.List es p2) pos) (iF i f):=PS.imp (mq hN hi hx (pe_lstN ha) hs hf) fun D σ H hh_=>by
 &⟨ρ,B,M,E,h⟩:=hh_
 &⟨ρ,OO B M,E.o,?_⟩
 unfold iF at h
 cases q:f ρ with
 | bad=>rw [q]at h;#h.elim
 | err c=>rw [q]at h;#PostF.xa h
 | ok l=>
  rw [q,aD]at h
  intro H1 s1 vs rs
  by_cases hl:i<ρ.length/\l.length<=sizeLine
  ·rw [if_pos hl]at h
   &⟨by rw [<-rs.length];#hl.2,fun p hp=> ?_⟩
   have hm:∀ a,a=p->Nw X.K H1 a:=fun a z=>z▸hp
   &⟨E2,sub⟩:=(E.same s1).new (m:=fun a=>a=p) (o:=.lst l) (v:=.ref p) (H':=upd H1 p (.lst vs)) hl.1 hm (aS hp.1 _) ⟨p,vs,rfl,fun b=>Iff.rfl,aG,(rs.more (Ev.subO hm)).same (aS hp.1 _)⟩
   #h _ _ _ (SameO.of (s1.trans (aS hp.1 _))) E2 fun a z=>(sub a z).imp_right (kj s1)
  ·rw [if_neg hl]at h
   #h.elim
def ip (i:Nat)(f:En->Rs T)(ρ:En):Rs Fl:=match ρ[i]? with
 | some (.ow (.lst l))=>f ρ >>= fun t=>if l.length<sizeLine then .ok (.nx (ρ.set i (.ow (.lst (l++ [t])))))else .bad
 | _=> .bad
&Ev.putL {K:PySem.W.Frag}{B:Ow}{M:Mn}{H:Hp}{ρ:En}{σ:L2.St}{i:Nat}{o:OT}{l':List T}{b:Addr}{vs':List V}(E:Ev K B M H ρ σ)(hi:ρ[i]? =some (.ow o))(hs:σ[i]? =some (some (.ref b)))(hM:∀ c,M i c↔c=b)(r:Reps K (OO B M) H l' vs') :
  Ev K B M (upd H b (.lst vs')) (ρ.set i (.ow (.lst l'))) σ/\SameO M.u H (upd H b (.lst vs')):=by
 have sm:SameO (M i) H (upd H b (.lst vs')):=fun c u e nb=>by rw [aF (fun z=>nb ((hM c).mpr z))];#e
 #E.put hi hs sm ⟨b,vs',rfl,hM,aG,r.move (P:=M i) (fun a z=> .inl (.inr ⟨i,z⟩)) (fun a z=> .inl z) sm⟩
&qs_app (i:Nat){apos cpos:Pos}(ha:b9 X a fa)(hN:X.N[i]? =some x:=by rfl)(hv:qH X.env.scope x:=by first | #Or.inl rfl | #Or.inr (Or.inl rfl) | #Or.inr (Or.inr rfl))(hn:bx a=true:=by rfl)
  (hbase:attributeBase (.Name x p2) "append" X.env (eval (.Name x p2) X.env)=eval (.Name x p2) X.env:=by rfl) (hline:(apos.endLine == cpos.line)=true:=by rfl)
  (hd:(x == ("__debug__" : Str))=false:=by decide) (hcd:(x == ("__classdict__" : Str))=false:=by decide)
  (hsw:swapsWith (.Call (.Attribute (.Name x p2) "append" apos) [a] [] cpos) none pos.line X.env=pure false:=by rfl):nT X (.Expr (.Call (.Attribute (.Name x p2) "append" apos) [a] [] cpos) pos) (ip i fa):=by
 have h1:starEach [a] X.env=(false,eval a X.env)::starEach [] X.env:=bh hn
 &PS.imp (pL (uo PySem.F.plainAttrs_list PySem.F.slot_list_append PySem.F.type_list_append oH (gY hN hv hd hcd) (bi ha df h1) hbase ?_ hline h1 rfl) hsw) fun D σ H ⟨ρ,B,M,E,h⟩=> ?_
 ·rw [h1];rfl
 unfold ip at h
 split at h
 ·rename_i l hl
  &⟨v0,e1,b,vs,rfl,hM,e3,e4⟩:=E.env.own i _ hl
  &⟨.ref b,e1,.inl ⟨rfl,vs,SqL.of e3⟩,ρ,OO B M,E.o,?_⟩
  cases q:fa ρ with
  | bad=>rw [q]at h;#h.elim
  | err c=>rw [q]at h;#PostF.xa h
  | ok t=>
   rw [q,aD]at h
   split at h
   ·rename_i hz
    intro H1 s1 v r
    have e3':=s1 _ _ e3
    &⟨b,vs,v,rfl,rfl,e3',by rw [<-e4.length];#hz,?_⟩
    &⟨g1,g2⟩:=(E.same s1).putL (l':=l++ [t]) (vs':=vs++ [v]) hl e1 hM ((e4.same s1).append (Reps.cons_ r Reps.nil_))
    #h σ _ M (fun c o e nb=>g2 c o (s1 _ _ e) nb) g1 fun c z=> .inl z
   ·#h.elim
 ·#h.elim
def extL (i:Nat)(l:List T)(ρ:En):T->Rs Fl
 | .lst m=>if l.length+m.length<=sizeLine then .ok (.nx (ρ.set i (.ow (.lst (l++m)))))else .bad
 | _=> .bad
def mn (i:Nat)(f:En->Rs T)(ρ:En):Rs Fl:=match ρ[i]? with
 | some (.ow (.lst l))=>f ρ >>= extL i l ρ
 | _=> .bad
&qs_ext (i:Nat){apos cpos:Pos}(ha:b9 X a fa)(hN:X.N[i]? =some x:=by rfl)(hv:qH X.env.scope x:=by first | #Or.inl rfl | #Or.inr (Or.inl rfl) | #Or.inr (Or.inr rfl))(hn:bx a=true:=by rfl)
  (hbase:attributeBase (.Name x p2) "extend" X.env (eval (.Name x p2) X.env)=eval (.Name x p2) X.env:=by rfl) (hline:(apos.endLine == cpos.line)=true:=by rfl)
  (hd:(x == ("__debug__" : Str))=false:=by decide) (hcd:(x == ("__classdict__" : Str))=false:=by decide)
  (hsw:swapsWith (.Call (.Attribute (.Name x p2) "extend" apos) [a] [] cpos) none pos.line X.env=pure false:=by rfl):nT X (.Expr (.Call (.Attribute (.Name x p2) "extend" apos) [a] [] cpos) pos) (mn i fa):=by
 have h1:starEach [a] X.env=(false,eval a X.env)::starEach [] X.env:=bh hn
 &PS.imp (pL (uo PySem.F.plainAttrs_list PySem.F.slot_list_extend PySem.F.type_list_extend vI (gY hN hv hd hcd) (bi ha df h1) hbase ?_ hline h1 rfl) hsw) fun D σ H ⟨ρ,B,M,E,h⟩=> ?_
 ·rw [h1];rfl
 unfold mn at h
 split at h
 ·rename_i l hl
  &⟨v0,e1,b,vs,rfl,hM,e3,e4⟩:=E.env.own i _ hl
  &⟨.ref b,e1,.inl ⟨rfl,vs,SqL.of e3⟩,ρ,OO B M,E.o,?_⟩
  cases q:fa ρ with
  | bad=>rw [q]at h;#h.elim
  | err c=>rw [q]at h;#PostF.xa h
  | ok t=>
   rw [q,aD]at h
   unfold extL at h
   split at h
   ·rename_i m
    split at h
    ·rename_i hz
     intro H1 s1 v r
     &⟨c,ws,rfl,nO,hc,rm⟩:=Rep.lst_iff.mp r
     have e3':=s1 _ _ e3
     &⟨b,c,vs,ws,rfl,rfl,e3',hc,by rw [<-e4.length,<-rm.length];#hz,?_⟩
     &⟨g1,g2⟩:=(E.same s1).putL (l':=l++m) (vs':=vs++ws) hl e1 hM ((e4.same s1).append rm)
     #h σ _ M (fun c o e nb=>g2 c o (s1 _ _ e) nb) g1 fun c z=> .inl z
    ·#h.elim
   ·#h.elim
 ·#h.elim
def lx (i:Nat)(F:En->Rs Fl)(ρ:En):Rs Fl:=F (disown i ρ)
&qs_dis (i:Nat){st:Stmt}{F:En->Rs Fl}(h:nT X st F):nT X st (lx i F):=PS.imp h fun D σ H hh_=>by
 &⟨ρ,B,M,E,q⟩:=hh_
 &⟨E',sub⟩:=E.disown i
 #⟨disown i ρ,B,_,E',PostF.later q (fun _ _ e _=>e) fun a z=> .inl (sub a z)⟩
mutual
def T.nk (D:Bool):T->Bool
 | .scr _=>false
 | .dct _ ts=> !D&&nks D ts
 | .lst l=>D&&nks D l
 | .tup l=>nks D l
 | _=>true
def nks (D:Bool):List T->Bool
 | [] =>true
 | t::l=>t.nk D&&nks D l
end
mutual
theorem Rep.lend {K:PySem.W.Frag}{O O':Ow}{H:Hp}{D:Bool}(hk:∀ a,O a->O' a\/if D then ∃kvs,H a=some (.dT kvs)else ∃vs,H a=some (.lst vs)):∀ {t:T} {v:V},t.nk D=true->Rep K O' H t v->Rep K O H t v
 | .non,_,_,r=>by unfold Rep at r ⊢;#r
 | .bl _,_,_,r=>by unfold Rep at r ⊢;#r
 | .int _,_,_,r=>by unfold Rep at r ⊢;#r
 | .str _,_,_,r=>by unfold Rep at r ⊢;#r
 | .tup l,_,h,r=>by
  unfold Rep at r ⊢
  unfold T.nk at h
  &⟨a,vs,e,n,q,z⟩:=r
  &⟨a,vs,e,fun p=>(hk a p).elim n fun w=> ?_,q,Reps.lend hk h z⟩
  split at w <;> (&⟨_,w⟩:=w;rw [q]at w;cases w)
 | .lst l,_,h,r=>by
  unfold Rep at r ⊢
  unfold T.nk at h
  rw [Bool.and_eq_true]at h
  &⟨h1,h2⟩:=h
  subst h1
  &⟨a,vs,e,n,q,z⟩:=r
  &⟨a,vs,e,fun p=>(hk a p).elim n fun w=> ?_,q,Reps.lend hk h2 z⟩
  rw [if_pos rfl]at w;&⟨_,w⟩:=w;rw [q]at w;cases w
 | .scr l,_,h,r=>by unfold T.nk at h;cases h
 | .dct ks ts,_,h,r=>by
  unfold Rep at r ⊢
  unfold T.nk at h
  rw [Bool.and_eq_true]at h
  &⟨h1,h2⟩:=h
  cases D with
  | true=>cases h1
  | false=>
   &⟨a,kvs,e,n,q,k,z⟩:=r
   &⟨a,kvs,e,fun p=>(hk a p).elim n fun w=> ?_,q,k,Reps.lend hk h2 z⟩
   rw [if_neg Bool.false_ne_true]at w;&⟨_,w⟩:=w;rw [q]at w;cases w
theorem Reps.lend {K:PySem.W.Frag}{O O':Ow}{H:Hp}{D:Bool}(hk:∀ a,O a->O' a\/if D then ∃kvs,H a=some (.dT kvs)else ∃vs,H a=some (.lst vs)):∀ {l:List T} {vs:List V},nks D l=true->Reps K O' H l vs->Reps K O H l vs
 | [],_,_,r=>by unfold Reps at r ⊢;#r
 | t::l,_,h,r=>by
  unfold Reps at r ⊢
  unfold nks at h
  rw [Bool.and_eq_true]at h
  &⟨v,ws,e,p,q⟩:=r
  #⟨v,ws,e,Rep.lend hk h.1 p,Reps.lend hk h.2 q⟩
end
def ln (i:Nat)(f:En->Rs T)(ρ:En):Rs T:=match ρ[i]? with
 | some (.ow o)=>f (disown i ρ) >>= fun t=>if t.nk o.isD=true then .ok t else .bad
 | _=>f ρ
def lnB (i:Nat)(f:En->Rs Bool)(ρ:En):Rs Bool:=f (disown i ρ)
&pe {K:PySem.W.Frag}{O:Ow}{M:Mn}{H:Hp}{ρ:En}{σ:L2.St}(E:EnvM K O M H ρ σ)(i:Nat):EnvM K (fun a=>O a/\¬ M i a) (M.set i wn) H (disown i ρ) σ:=
 E.disown i (fun a z=>z.1) (fun a z y=>y.2 z) fun j a hj z=>⟨E.sub j a z,fun y=>hj (E.dis j i a z y)⟩
&q_ln (i:Nat){e:Expr}{f:En->Rs T}(h:b9 X e f):b9 X e (ln i f):=PE.imp h fun σ H Q ⟨ρ,O,⟨M,E⟩,q⟩=>by
 unfold ln at q
 split at q
 ·rename_i o hi
  &⟨disown i ρ,_,⟨_,pe E i⟩,?_⟩
  &⟨w,e1,r⟩:=E.own i o hi
  &Post.mono (Post.bind q) fun t H' s q2 v rv=> ?_
  split at q2
  ·rename_i hk
   have kd:=(r.same s).kind
   &q2 H' (Same.refl _) v (Rep.lend (fun a z=> ?_) hk rv)
   by_cases hm:M i a
   ·#.inr (kd a hm)
   ·#.inl ⟨z,hm⟩
  ·#q2.elim
 ·#⟨ρ,O,⟨M,E⟩,q⟩
&qt_ln (i:Nat){e:Expr}{f:En->Rs Bool}(h:sC X e f):sC X e (lnB i f):=PT.imp h fun σ H Q ⟨ρ,O,⟨M,E⟩,q⟩=>⟨disown i ρ,_,⟨_,pe E i⟩,q⟩
end
end Tr
namespace Tr
open PySem L2
def lF:List T->List T->List Key->Option T
 | k'::ks,v::vs,k=>if aV k'=some k then some v else lF ks vs k
 | _,_,_=>none
def gk (k v:T):List T->List T->List T×List T
 | k'::ks,v'::vs=>if aV k'=aV k then(k'::ks,v::vs)else(k'::(gk k v ks vs).1,v'::(gk k v ks vs).2)
 | _,_=>([k],[v])
def bD (x y:T):Rs T:=match x,aV y with
 | .dct ks vs,some k=>match lF ks vs k with
  | some t=> .ok t
  | none=> .bad
 | _,_=> .bad
def im (x y:T):Rs T:=match x,aV y with
 | .dct ks vs,some k=>match lF ks vs k with
  | some t=> .ok t
  | none=> .ok .non
 | _,_=> .bad
def oD (g:T->T->Rs T)(fa fb:En->Rs T)(ρ:En):Rs T:=fa ρ >>= fun x=>match x with
 | .dct ks vs=>fb ρ >>= g (.dct ks vs)
 | _=> .bad
def oL (g:T->T->Rs T)(fa fb:En->Rs T)(ρ:En):Rs T:=fa ρ >>= fun x=>match x with
 | .lst l=>fb ρ >>= g (.lst l)
 | _=> .bad
def prs:List T->Option (List (T×T))
 | [] =>some []
 | .tup [k,v] ::l=>match aV k,prs l with
  | some _,some r=>some ((k,v)::r)
  | _,_=>none
 | _=>none
def iY:List (T×T)->List T×List T->List T×List T
 | [],d=>d
 | (k,v)::r,d=>iY r (gk k v d.1 d.2)
def uW:List T->Rs T
 | [.lst l] =>match prs l with
  | some ps=>if l.length<=1000 then .ok (.dct (iY ps ([],[])).1 (iY ps ([],[])).2)else .bad
  | none=> .bad
 | _=> .bad
def li:List T->Bool
 | [] =>true
 | k::l=>(aV k).isSome&&li l
def oC (i:Nat)(f:En->Rs T)(ρ:En):Rs Fl:=f ρ >>= fun t=>uW [t] >>= fun d=>match d with
 | .dct ks vs=>if i<ρ.length then .ok (.nx (ρ.set i (.ow (.dct ks vs))))else .bad
 | _=> .bad
def vo (i:Nat)(fk fv:En->Rs T)(ρ:En):Rs Fl:=match ρ[i]? with
 | some (.ow (.dct ks vs))=>fv ρ >>= fun v=>fk ρ >>= fun k=>match aV k with
  | some _=>if ks.length<1000 then .ok (.nx (ρ.set i (.ow (.dct (gk k v ks vs).1 (gk k v ks vs).2))))else .bad
  | none=> .bad
 | _=> .bad
def mm (i j:Nat)(ρ:En):Rs Fl:=match ρ[j]? with
 | some (.va (.lst l))=>if i<ρ.length/\li l=true/\(l.map aV).Nodup/\l.length<=1000 then .ok (.nx (ρ.set i (.ow (.dd l (l.map fun _=>(l,l.map fun _=> .non))))))else .bad
 | _=> .bad
def n4:List T->List (List T×List T)->List Key->Option (List T×List T)
 | k'::ks,r::rs,k=>if aV k'=some k then some r else n4 ks rs k
 | _,_,_=>none
def nZ (k:List Key)(x:List T×List T):List T->List (List T×List T)->List (List T×List T)
 | k'::ks,r::rs=>if aV k'=some k then x::rs else r::nZ k x ks rs
 | _,rs=>rs
def ii (i:Nat)(fa fb fv:En->Rs T)(ρ:En):Rs Fl:=match ρ[i]? with
 | some (.ow (.dd ks rows))=>fv ρ >>= fun v=>fa ρ >>= fun a=>match(aV a).bind fun ka=>(n4 ks rows ka).map fun r=>(ka,r)with
  | some (ka,r)=>fb ρ >>= fun b=>if (aV b).isSome=true/\r.1.length<1000 then .ok (.nx (ρ.set i (.ow (.dd ks (nZ ka (gk b v r.1 r.2) ks rows)))))else .bad
  | none=> .bad
 | _=> .bad
def gP:List T->Option (List Int)
 | [] =>some []
 | .int i::l=>(gP l).map (i:: ·)
 | _=>none
def lmin (i:Int):List Int->Int
 | [] =>i
 | j::l=>lmin (if j<i then j else i) l
def kP (i:Int):List Int->Int
 | [] =>i
 | j::l=>kP (if i<j then j else i) l
def sO:List T->Rs T
 | [.lst l] =>match gP l with
  | some ns=> .ok (.int ns.sum)
  | none=> .bad
 | _=> .bad
def maxT:List T->Rs T
 | [.lst l] =>match gP l with
  | some (i::ns)=> .ok (.int (kP i ns))
  | _=> .bad
 | [.int i,.int j] => .ok (.int (kP i [j]))
 | _=> .bad
def ju (x:T):List T->Nat->Option Nat
 | [],_=>none
 | t::l,n=>if aZ t x then some n else ju x l (n+1)
def gt (y x:T):Rs T:=match y with
 | .lst l=>if (x.dep<=60\/deps l<=60)/\x.nd=true/\nds l=true then match ju x l 0 with
   | some n=> .ok (.int n)
   | none=> .bad
  else .bad
 | _=> .bad
def vk (ms:List (List T->Rs T))(f0:En->Rs T)(fs:En->Rs (List T))(ρ:En):Rs T:=f0 ρ >>= fun k=>match k with
 | .int i=>match L2.atI ms i with
  | some m=>fs ρ >>= m
  | none=> .bad
 | _=> .bad
def FU:Nat:=1000000000000
end Tr
namespace Tr
open PySem PySem.Spec PyProof.Rows L2
&gG {h b b':Heap}:∀ {l:List Env},h.FunFrames b l->(∀a∈l.filterMap (·.frame),b'.get? a=none)->h.FunFrames b' l
 | [],_,_=>trivial
 | env::cL,⟨hk,⟨L,o,hf,hn,ho,hd⟩,hr⟩,q=>by
  rw [List.filterMap_cons,hf]at q
  #⟨hk,⟨L,o,hf,q L List.mem_cons_self,ho,hd⟩,gG hr fun a ha=>q a (List.mem_cons_of_mem _ ha)⟩
section
variable {M:Model}{A:Around}{E:Value->Shared->Prop}{s:Shared}
structure Gone (fs:List Addr)(C e:Addr)(T:Option Addr)(h h':Heap)(T':Addr):Prop where
 flt:Flt h' C e (some T')
 new:T=some T'\/h.get? T'=none
 keep:∀ b o,b∉fs->b≠e->T≠some b->h.get? b=some o->h'.get? b=some o
 slot:∀ b o,b∈fs->h.get? b=some o->∃ sl,h'.get? b=some { o with slots:=sl }
&leave1 {base:Heap}{env:Env}{outer:List Env}{L C e:Addr}{T:Option Addr}{Q:Unit->Shared->Prop}(hfr:A.frames=some (env::outer))(hl:s.heap.FunFrames base (env::outer))(hf:env.frame=some L)
  (F:Flt s.heap C e T) (h:∀ h' T',Gone ((env::outer).filterMap (·.frame)) C e T s.heap h' T'->Q () { s with heap:=h' }):wpAny M A (leaving env (.ref e)) Q E s:=by
 generalize hB:PySem.W.hideAll s.heap (e::(T.toList++(env::outer).filterMap (·.frame)))=B
 have bm:∀ b,b∈e::(T.toList++(env::outer).filterMap (·.frame))->B.get? b=none:=fun b m=>by rw [<-hB];#PySem.W.hideAll_none _ m
 have hl':s.heap.FunFrames B (env::outer):=gG hl fun a ha=>bm a (List.mem_cons_of_mem _ (List.mem_append_right _ ha))
 have hst:B.StaysIn s.heap:=fun b o q=>by rw [<-hB]at q;#PySem.W.of_hideAll _ q
 have hen:B.get? e=none:=bm e List.mem_cons_self
 have main:∀ h',Heap.Left B (env::outer) e (.ref C) s.heap h'->Q () { s with heap:=h' }:=fun h' ⟨x1,x2,⟨oe,vs,T',oT,ts,he,hc,hd,h1,hnT,hTe,hT,hdT,h3⟩,x4⟩=>by
  &h h' T' ⟨⟨hTe,oe,vs,he,hc,hd,h1,oT,ts,hT,hdT,h3⟩,?_,fun b o n1 n2 n3 q=> ?_,fun b o m q=> ?_⟩
  ·cases q:s.heap.get? T' with
   | none=>#.inr rfl
   | some o=>
    left
    by_cases z:T'∈e::(T.toList++(env::outer).filterMap (·.frame))
    ·rcases List.mem_cons.mp z with z | z
     ·#absurd z hTe
     ·rcases List.mem_append.mp z with z | z
      ·cases T with
       | none=>simp at z
       | some t=>simp at z;rw [z]
      ·&⟨_,o',ho',hnf⟩:=x2.mem z
       rw [hT]at ho';cases ho'
       #absurd hdT (hnf ts)
    ·rw [<-hB,PySem.W.hideAll_get _ q z]at hnT;cases hnT
  ·&x1 b o ?_
   rw [<-hB]
   &PySem.W.hideAll_get _ q fun z=> ?_
   rcases List.mem_cons.mp z with z | z
   ·#n2 z
   ·rcases List.mem_append.mp z with z | z
    ·cases T with
     | none=>simp at z
     | some t=>simp at z;#n3 (by rw [z])
    ·#n1 z
  ·&⟨_,o',ho',hnf⟩:=hl.mem m
   rw [q]at ho';cases ho'
   #x4 b o q hnf
 cases T with
 | none=>
  &⟨oe,vs,he,hc,hd,h1⟩:=F
  &wpAny_leaving_first hfr hl' hf he hst hen hd h1 fun h' x=>main h' ?_
  rw [hc]at x;#x
 | some t=>
  &⟨hte,oe,vs,he,hc,hd,h1,oT,ts,hT,hdT,h3⟩:=F
  #wpAny_leaving_next hfr hl' hf ⟨oe,vs,t,oT,ts,he,hc,hd,h1,bm t (List.mem_cons_of_mem _ (List.mem_append_left _ (by simp))),hte,hT,hdT,h3⟩ hst hen main
end
abbrev lH:List Value:=[.type "ValueError",.type "Exception",.type "BaseException",.type "object"]
structure OwnExc (K:PySem.W.Frag)(C:Addr)(bm:List Value):Prop where
 at_:∀ h:Heap,K.In h->∃ nm q N bs hdct sn sub ab col dd k0 k1 k2 k3 k5 mN,h.get? C=some (excClassObj nm q C N bs bm hdct sn sub ab col dd k0 k1 k2 k3 k5 "ValueError.__new__")/\h.Ns N mN/\mN "__init__" =none/\OwnTail h lH bm
&OwnExc.base {K:PySem.W.Frag}{C:Addr}{bm:List Value}(O:OwnExc K C bm){h:Heap}(k:K.In h):bm.contains (.type "BaseException")=true:=by
 &⟨_,_,_,_,_,_,_,_,_,_,_,_,_,_,_,_,_,_,_,T⟩:=O.at_ h k
 #T.hasType (by decide)
def sErr (c:Str)(_:En):Rs Fl:=.err c
section
variable {X:Cx}
&xb {c:Str}{msg:Str}{C:Addr}{bm:List Value}{np p1 cpos pos:Pos}{j:Nat}(O:OwnExc X.K C bm)(hc:X.calm=true)(hm:X.mg c=some (.ref C))(hg:Gl X c:=by rfl)(hd:(c == ("__debug__" : Str))=false:=by decide) :
  nT X (.Raise (some (.Call (.Name c np) [.Constant (.str msg) j p1] [] cpos)) none pos) (sErr c):=by
 intro pins s σ H D I ⟨ρ,B,M,E,k⟩
 have k:XA X M.u H c:=k
 &⟨nm,q,N,bs,hdct,sn,sub,ab,col,dd,k0,k1,k2,k3,k5,mN,hC,hN,hni,T⟩:=O.at_ s.heap I.kIn
 &wpAny_Raise_call_subU (C:=C) (mN:=mN) (nm:=nm) (q:=q) (N:=N) (bs:=bs) (hdct:=hdct) (sn:=sn) (sub:=sub) (ab:=ab) (col:=col) (dd:=dd) (k0:=k0) (k1:=k1) (k2:=k2) (k3:=k3) (k5:=k5) PySem.F.excBase_ValueError (Bn:="ValueError") (by decide) PySem.F.excBase_ValueError (O.base I.kIn) (I.ok.hd hc) (by rfl) hni (jm I hg hm ⟨rfl,?_⟩ hd)
 show wpAny _ _ (evalArgs (.ref C) true ((false,eval (.Constant (.str msg) j p1) X.env)::backTo cpos (starEach [] X.env)) []) _ _ s
 &Calls.evalArgs_plain (Calls.spliced_cons (Calls.Constant_str (Calls.spliced_nil ?_)))
 &⟨rfl,by show 1<=sizeLine;decide,hC,hN,T,fun h' e hm'=>k pins _ _ ?_⟩
 &⟨t,ht,ht2,ht3⟩:=hm'.there
 have I':Inv X pins σ H { s with heap:=h',toks:=s.toks+1 }:=I.kept (t':=s.toks+1) fun b o z=>hm'.keeps b o z
 &⟨e,none,C,σ,H,rfl,hm,I',fun b o z _=>z,?_,?_,⟨_,_,ht,rfl,rfl,rfl⟩,(fun t z=>by cases z),fun p hp=>⟨fun z=> ?_,fun z=>by cases z⟩⟩
 ·#mP I hm'.new
 ·#fun hex=>jR I hex hm'.new
 ·have:=(I.pin p hp).1
  rw [z,show s.heap.get? e=none from hm'.new]at this
  cases this
end
section
variable {P:Program}{w:World}{K:PySem.W.Frag}{mg:Str->Option Value}{base:Heap}
&fnx_ok {x qual:Str}{st:Stmt}{f:Addr}{fd:FuncData}{N ps:List Str}{k n:Nat}{g:List T->Rs T}(Fn:L2.Fun K x qual st f fd)(S:aE N ps (aj st))(hn:ps.length=n)
  (hbody:∀ (cdv:Value) (A:Around) (outer:List Env) (s:Shared) (H:Hp) (E:XK),Room k (A.deeper (envOfC qual (aj st) s.heap.objs.size f cdv)) →
   ∃F,(∀xe,k7 ((kA CX0 P w K mg base N qual (aj st) f cdv A outer s H E).wish xe) (cO st) F)/\∀ ts,ts.length=n->∀ c,g ts= .err c->F (bp N.length ts)= .err c):FnX P w K mg base (k+1) f fd ps n g:=by
 intro A outer s H args us vs O ts c R hr e0 hb r rs trk hl hg hR
 have hpl:ps.length<=N.length:=by have:=congrArg List.length S.pre;rw [List.length_take]at this;omega
 &⟨oc,od,kV,doc,pm,an,cdv,ct,osl,rfl,lk,hcd⟩:=Fn.ex
 have hlen:vs.length=ps.length:=by rw [<-rs.length,hl,hn]
 have KX:K.In s.heap:=e0.mod.kin.keeps fun b o e=>(e0.bs b o e).1
 have lim:s.heap.NoLimit:=e0.mod.nolimit.keeps fun b o e=>(e0.bs b o e).1
 have hkind:∀ y∈ps.zip us,(aj st).names.lookup y.1=some .local\/((aj st).names.lookup y.1=some .cell/\((cellsFrom (s.heap.objs.size+1) (aj st).names []).lookup y.1).isSome=true):=fun⟨n,v⟩ hy=>by
  rcases S.par n (List.of_mem_zip hy).1 with q | q
  ·#.inl q
  ·#.inr ⟨q,PySem.W.cellsFrom_some _ _ _ (.inl q)⟩
 &codeAny_call_function hr.depth (KX _ _ lk) rfl S.co S.gen rfl (PySem.W.codeRec_of KX hcd) (hb _ _ _ _ ?_)
 &wpAny_newFunctionEnv_cells S.kind hkind fun env he s1 x=> ?_
 subst he
 &⟨lim.keeps x.toInCall.keep,codeAny_func ?_⟩
 &⟨F,hF,hv⟩:=hbody cdv A outer s H E0 (hr.deeper _)
 let xe:Value->Shared->Prop:=fun ev s'=>wpAny (model P w) (A.deeper (envOfC qual (aj st) s.heap.objs.size f cdv)) (leaving (envOfC qual (aj st) s.heap.objs.size f cdv) ev) (fun _ s''=>R (.error ev) s'') (fun e' s''=>R (.error e') s'') s'
 have I:Inv ((kA CX0 P w K mg base N qual (aj st) f cdv A outer s H E0).wish xe) [] (start N vs) H s1:=(kU S hr.hd e0 hlen r x).wish _
 have no:∀ a,¬noM.u a:=fun a ⟨_,z⟩=>z
 &wpAny_mono (hF xe [] s1 (start N vs) H { nx:=fun _ _=>False,rt:=fun _ _=>False,bk:=fun _ _=>False,ct:=fun _ _=>False } I ⟨bp N.length ts,O,noM,oy rs (by omega) trk,?_⟩) (fun fl s' z=> ?_) fun e s' hs=>hs
 rotate_left
 ·cases fl with
  | next=>&⟨_,_,_,z⟩:=z;#z.elim
  | cont=>&⟨_,_,_,z⟩:=z;#z.elim
  | brk=>&⟨_,_,_,z⟩:=z;#z.elim
  | ret v=>&⟨_,_,_,_,_,z⟩:=z;#z.elim
 rw [hv ts hl c hg]
 intro pins ev s' w'
 show wpAny _ _ _ _ _ _
 &⟨e,T,C,σ',H',rfl,hm,I',sm,he,heo,fl,hT,_⟩:=w'
 have heo:=heo rfl
 have hT:∀ t,T=some t->H' t=none/\s.heap.get? t=none:=fun t z=>⟨(hT t z).1,(hT t z).2 rfl⟩
 &leave1 (base:=base) (outer:=outer) (L:=s.heap.objs.size) I'.ok.frames I'.stack rfl fl fun h' T' g=>hR _ _ ?_
 have hex:((kA CX0 P w K mg base N qual (aj st) f cdv A outer s H E0).wish xe).ex= []:=rfl
 have Tn:H' T'=none/\s.heap.get? T'=none:=by
  rcases g.new with z | z
  ·#hT T' z
  ·#⟨mP I' z,jR I' hex z⟩
 have out:∀ b o,s.heap.get? b=some o->b≠s.heap.objs.size:=fun b o q z=>by
  have:=Heap.lt_size q
  rw [z]at this
  #absurd this (Nat.lt_irrefl _)
 have mem:∀ b,b∈ni ((envOfC qual (aj st) s.heap.objs.size f cdv)::outer)->b=s.heap.objs.size\/b∈ni outer:=fun b z=>by
  have z':b∈s.heap.objs.size::ni outer:=z
  #List.mem_cons.mp z'
 have ne:∀ b o,s.heap.get? b=some o->b≠e/\T≠some b:=fun b o q=>⟨fun z=>(by subst z;rw [show s.heap.get? b=none from heo]at q;cases q),fun z=>(by rw [show s.heap.get? b=none from(hT b z).2]at q;cases q)⟩
 have keepH:∀ b u,H' b≠none->s'.heap.get? b=some u->h'.get? b=some u:=fun b u hb q=>by
  &g.keep b u (fun z=>hb (I'.stkFree b z)) (fun z=>hb (by rw [z];#he)) (fun z=>hb (hT b z).1) q
 &⟨e,T',C,H',rfl,hm,I'.os,I'.bare,⟨fun b o q n hb hx=> ?_,fun b o q n hb hx=> ?_,fun b o q n hx=>I'.base.free b o q n hx,fun b o q hx=> ?_,I'.base.tups,I'.base.frzs,I'.base.tbls⟩,fun a o q=> ?_,fun b o q=>sm b o q (no b),he,heo,g.flt,Tn.1,Tn.2⟩
 ·#g.keep b o (fun z=>(mem b z).elim (out b o q) hb) (ne b o q).1 (ne b o q).2 (I'.base.keep b o q n hb hx)
 ·&⟨sl,q1⟩:=I'.base.slot b o q n hb hx
  &⟨sl',q2⟩:=g.slot b _ (List.mem_cons_of_mem _ hb) q1
  #⟨sl',q2⟩
 ·&⟨o',q1⟩:=I'.base.there b o q hx
  by_cases z:b∈ni ((envOfC qual (aj st) s.heap.objs.size f cdv)::outer)
  ·&⟨sl,q2⟩:=g.slot b o' z q1
   #⟨_,q2⟩
  ·#⟨o',g.keep b o' z (ne b o q).1 (ne b o q).2 q1⟩
 ·&(I'.hok a o q).stay (fun b u hb z=>keepH b u ?_ z) (fun _ z=>z) fun _ _ z=>z
  rcases hb with rfl | hb
  ·rw [q];simp
  ·rw [hb];simp
end
&val_err {n m:Nat}{F:En->Rs Fl}{ts:List T}{c:Str}(h:val n m F ts= .err c):F (bp m ts)= .err c:=by
 unfold val at h
 split at h
 ·unfold dt at h
  cases z:F (bp m ts)with
  | bad=>rw [z]at h;cases h
  | err c'=>rw [z]at h;cases h;rfl
  | ok f=>
   rw [z,aD]at h
   cases f <;> cases h
 ·cases h
section
variable {P:Program}{w:World}{K:PySem.W.Frag}{mg:Str->Option Value}{base:Heap}
&fnb_ok {x qual:Str}{st:Stmt}{f:Addr}{fd:FuncData}{N ps:List Str}{k n:Nat}{F:En->Rs Fl}(Fn:L2.Fun K x qual st f fd)(S:aE N ps (aj st))(hn:ps.length=n)
  (hbody:∀ (cdv:Value) (A:Around) (outer:List Env) (s:Shared) (H:Hp) (E:XK),Room k (A.deeper (envOfC qual (aj st) s.heap.objs.size f cdv)) →
   ∀xe,k7 ((kA CX0 P w K mg base N qual (aj st) f cdv A outer s H E).wish xe) (cO st) F):zd P w K mg base (k+1) f fd ps n (val n N.length F):=
 ⟨fn_ok Fn S hn fun cdv A outer s H E hr=>⟨F,hbody cdv A outer s H E hr _,fun ts _ _ h=>val_ok h⟩,fnx_ok Fn S hn fun cdv A outer s H E hr=>⟨F,hbody cdv A outer s H E hr,fun ts _ c h=>val_err h⟩⟩
end
section
variable {X:Cx}{k n:Nat}{f:Addr}{fd:FuncData}{ps:List Str}{g:List T->Rs T}{pins:List (Addr×Obj)}{σ:L2.St}{H:Hp}{s:Shared}{us:List Value}{vs:List V}{ts:List T}{O:Ow}{Q:VK}
&run_b (F:zd X.prog X.w X.K X.mg X.base k f fd ps n g)(hr:Room k X.A)(hb:Binds X.K fd ps [])(hps:ps.length=n)(I:Inv X pins σ H s)(r:Vals vs us)(rs:Reps X.K O H ts vs)(mt:∀ a,O a->Mtb H a)(hl:ts.length=n)
  (hq:Post X H (g ts) fun t H'=> ∀v,Rep X.K O H' t v->Q v H'):wpAny (model X.prog X.w) X.A (call (.ref f) us) (EP X pins σ Q) X.xe s:=by
 cases q2:g ts with
 | bad=>rw [q2]at hq;#hq.elim
 | ok t=>
  rw [q2]at hq
  &wU (E:=E0) (dvs:=[]) (ds:=[]) F.h hr hb .nil xE I r ⟨ts,O,by simpa using rs,mt,hl,?_⟩
  rw [q2]
  #fun v H' s2 rr=>hq H' s2 v rr
 | err c=>
  rw [q2]at hq
  have hlen:us.length=ps.length:=by rw [<-r.length,<-rs.length,hl,hps]
  have hb':=hb s us I.kIn (by rw [List.append_nil];#hlen)
  rw [List.append_nil]at hb'
  &wpAny_call (codeAny_mono (F.x X.A X.stack s H ⟨us,[]⟩ us vs O ts c (fun r s'=>match r with | .error ev=>X.xe ev s' | _=>False) hr I.env0 hb' r rs mt hl q2 fun ev s' w=> ?_) fun r s' hq=> ?_)
  ·&⟨ea,T,C,H',rfl,hmc,ho,hbare,hun,hok,sm2,hea,heo,fl,hT,hTo⟩:=w
   have I2:Inv X pins σ H' s':=I.call' ho hun hok hbare (fun b z=>absurd z (by simp))
   #hq pins _ _ ⟨ea,some T,C,σ,H',rfl,hmc,I2,fun b o q _=>sm2 b o q,hea,fun hex=>jR I hex heo,fl,(fun t zt=>by cases zt;#⟨hT,fun hex=>jR I hex hTo⟩),fun pp hpp=>⟨fun zz=>(by have:=(I.pin pp hpp).1;rw [zz,heo]at this;cases this),fun zz=>(by cases zz;have:=(I.pin pp hpp).1;rw [hTo]at this;cases this)⟩⟩
  ·cases r with
   | error ev=>#hq
   | ok fl=>#hq.elim
inductive Sels (X:Cx) (n:Nat):List Expr->List Addr->List (List T->Rs T)->Prop
 | nil:Sels X n [] [] []
 | cons {x:Str} {p:Pos} {es:List Expr} {as:List Addr} {gs:List (List T->Rs T)} {k:Nat} {f:Addr} {fd:FuncData} {ps:List Str} {g:List T->Rs T}:zd X.prog X.w X.K X.mg X.base k f fd ps n g->Room k X.A->X.mg x=some (.ref f)->PySem.W.keepIn X.K (.ref f)=true->Binds X.K fd ps []->ps.length=n->Gl X x->(x == ("__debug__" : Str))=false →
   Sels X n es as gs->Sels X n (.Name x p::es) (f::as) (g::gs)
&seln:Sels X n [] [] []:=.nil
&selc {x:Str}{p:Pos}{es:List Expr}{as:List Addr}{gs:List (List T->Rs T)}(F:zd X.prog X.w X.K X.mg X.base k f fd ps n g)(hr:Room k X.A)(hm:X.mg x=some (.ref f))(hk:PySem.W.keepIn X.K (.ref f)=true)(hb:Binds X.K fd ps [])(h:Sels X n es as gs)(hps:ps.length=n:=by rfl)(hg:Gl X x:=by rfl)(hd:(x == ("__debug__" : Str))=false:=by decide) :
  Sels X n (.Name x p::es) (f::as) (g::gs):=.cons F hr hm hk hb hps hg hd h
&Sels.pa:∀ {es:List Expr} {as:List Addr} {gs:List (List T->Rs T)},Sels X n es as gs->PA X es (fun σ H Q=>Q (as.map V.ref) H)
 | _,_,_,.nil=>fun pos pins s σ H Q I h=>df pos pins s σ H Q I h
 | _,_,_,.cons F hr hm hk hb hps hg hd h=>fun pos pins s σ H Q I q=>bi (pU (v:=.ref _) hg hm rfl hd) h.pa (bh rfl) pos pins s σ H Q I q
&Sels.len:∀ {es:List Expr} {as:List Addr} {gs:List (List T->Rs T)},Sels X n es as gs->as.length=gs.length
 | _,_,_,.nil=>rfl
 | _,_,_,.cons _ _ _ _ _ _ _ _ h=>by rw [List.length_cons,List.length_cons,h.len]
&Sels.at_:∀ {es:List Expr} {as:List Addr} {gs:List (List T->Rs T)},Sels X n es as gs->∀ {j:Nat} {g:List T->Rs T},gs[j]? =some g->∃ f fd ps k,as[j]? =some f/\zd X.prog X.w X.K X.mg X.base k f fd ps n g/\Room k X.A/\PySem.W.keepIn X.K (.ref f)=true/\Binds X.K fd ps []/\ps.length=n
 | _,_,_,.nil,j,g,e=>by simp at e
 | _,_,_,.cons F hr hm hk hb hps hg hd h,0,g,e=>by simp at e;subst e;#⟨_,_,_,_,rfl,F,hr,hk,hb,hps⟩
 | _,_,_,.cons F hr hm hk hb hps hg hd h,j+1,g,e=>by
  &⟨f,fd,ps,k,e1,r⟩:=h.at_ (j:=j) (by simpa using e)
  #⟨f,fd,ps,k,by simpa using e1,r⟩
&lX {M:Model}{A:Around}{E:Value->Shared->Prop}{s:Shared}{env:Env}{a b:Expr}{p pos:Pos}{args:List Expr}{Q:Value->Shared->Prop}
  (h:wpAny M A (eval (.Subscript a b p) env) (fun f s₁=>wpAny M A (callWith pos f [] (backTo pos (starEach args env)) (backToKw pos (keywordEach [] env))) Q E s₁) E s) :
  wpAny M A (eval (.Call (.Subscript a b p) args [] pos) env) Q E s:=by
 rw [show eval (.Call (.Subscript a b p) args [] pos) env=(do callWith pos (<-eval (.Subscript a b p) env) [] (backTo pos (starEach args env)) (backToKw pos (keywordEach [] env)))from rfl]
 #wpAny_bind h
&yT {α β:Type}{xs:List α}{ys:List β}{i:Int}{y:β}(hl:xs.length=ys.length)(h:L2.atI ys i=some y):∃ j:Nat,ys[j]? =some y/\∀ x,xs[j]? =some x->L2.atI xs i=some x:=by
 unfold L2.atI at h ⊢
 rw [hl]
 cases q:ixN ys.length i with
 | none=>rw [q]at h;cases h
 | some j=>rw [q]at h;#⟨j,h,fun x e=>e⟩
&q_sel {es args:List Expr}{a0 i0:Expr}{p1 p2 pos:Pos}{as:List Addr}{gs:List (List T->Rs T)}{f0:En->Rs T}{fs:En->Rs (List T)}(S:Sels X n es as gs)(h0:b9 X i0 f0)(hl:∀ ρ ts,fs ρ= .ok ts->ts.length=n)(ha:qE X (a0::args) fs)
  (hn:bM (a0::args)=true:=by rfl) (hs:jw i0:=by intro _ _;rfl) (hz:es.length<=100:=by decide):b9 X (.Call (.Subscript (.List es p1) i0 p2) (a0::args) [] pos) (vk gs f0 fs):=by
 intro pins s σ H Q I ⟨ρ,O,E,hq⟩
 have hes:as.length<=sizeLine:=by
  have:∀ {es:List Expr} {as:List Addr} {gs:List (List T->Rs T)},Sels X n es as gs->es.length=as.length:=by
   intro es as gs h
   induction h with
   | nil=>rfl
   | cons _ _ _ _ _ _ _ _ _ ih=>rw [List.length_cons,List.length_cons,ih]
  rw [<-this S,sizeLine_eq];omega
 have hq':Post X H (f0 ρ >>= fun k=>match k with | .int i=>(match L2.atI gs i with | some m=>fs ρ >>= m | none=> .bad) | _=> .bad) fun t H'=> ∀v,Rep X.K O H' t v->Q v H':=hq
 &lX (bU (pe_ix ix_list (pT S.pa) h0 hs pins s σ H (fun v H'=> ∃(i:Int) (m:List T->Rs T) (j:Nat),L2.atI gs i=some m/\gs[j]? =some m/\(∀x,as[j]? =some x->v= .ref x)/\Same H H'/\Post X H' (fs ρ >>= m) fun t H'=> ∀v,Rep X.K O H' t v->Q v H') I ?_) fun f s1 r=> ?_)
 ·&⟨by rw [List.length_map];#hes,fun l hl0=> ?_⟩
  have E1:=E.same (aS hl0 (.lst (as.map V.ref)))
  have s1:Same H (upd H l (.lst (as.map V.ref))):=aS hl0 _
  &⟨ρ,O,E1,Post.mono (Post.bind (Post.later hq' s1)) fun t H2 s2 q2 v rv=> ?_⟩
  cases t with
  | int i=>
   have hv:=Rep.int_iff.mp rv
   subst hv
   simp only at q2
   cases z:L2.atI gs i with
   | none=>rw [z]at q2;#q2.elim
   | some m=>
    rw [z]at q2
    &⟨j,z1,z2⟩:=yT (xs:=as) S.len z
    &⟨f,fd,ps,k,e1,_⟩:=S.at_ z1
    have z3:L2.atI (as.map V.ref) i=some (.ref f):=by
     have:=z2 f e1
     unfold L2.atI at this ⊢
     rw [List.length_map]
     cases y:ixN as.length i with
     | none=>rw [y]at this;cases this
     | some j'=>
      rw [y]at this
      show(as.map V.ref)[j']? =_
      rw [List.getElem?_map]
      have:as[j']? =some f:=this
      rw [this];rfl
    &⟨l,as.map V.ref,i,.ref f,rfl,rfl,SqL.of (s2 _ _ aG),z3,i,m,j,z,z1,fun x ex=> ?_,s1.trans s2,q2⟩
    rw [e1]at ex;cases ex;rfl
  | _=>#q2.elim
 ·&⟨v,H1,I1,rv,i,m,j,z,z1,hv,sm,q⟩:=r
  &⟨f',fd,ps,k,e1,F,hr,hk,hb,hps⟩:=S.at_ z1
  cases hv f' e1
  cases rv
  unfold bM at hn
  rw [Bool.and_eq_true]at hn
  &PySem.W.callWith_K (h₀:=X.base) I.ok.mod.kin hk (bU (ha pos pins s1 σ H1 (fun vs H'=> ∃ts,fs ρ= .ok ts/\Reps X.K O H' ts vs/\Same H1 H'/\Post X H' (m ts) fun t H'=> ∀v,Rep X.K O H' t v->Q v H') I1 ⟨ρ,O,E.same sm,?_⟩) (fun us s2 ⟨vs,H2,I2,r,ts,et,rs,s2',q2⟩=>⟨I2.kIn,?_⟩)) (bh hn.1) (gK hn.2)
  ·cases y:fs ρ with
   | bad=>rw [y]at q;#q.elim
   | err c=>rw [y]at q;#q
   | ok ts=>
    rw [y]at q
    #fun H' s' vs rs=>⟨ts,rfl,rs,s',Post.later q s'⟩
  ·#run_b F hr hb hps I2 r rs ((E.same sm).same s2').mtb (hl ρ ts et) q2
end
section
variable {X:Cx}{a:Expr}{fa:En->Rs T}{pos p:Pos}{x:Str}
&qs_ct:nT X (.Continue pos) sCt:=PS.imp rn fun D σ H ⟨ρ,B,M,E,h⟩=>h σ H M (fun _ _ e _=>e) E fun a z=> .inl z
end
def calmNames:List Str:=["__init__","__getattribute__","__getattr__","__class__"]
inductive OTail (h:Heap):List Value->Prop
 | base:OTail h lH
 | own {A:Addr} {c0:Value} {dd:Option Addr} {cd:ClassData} {sl:Array (Option Value)} {mA:Str->Option Value} {tl:List Value} :
   h.get? A=some { cls:=c0,dict:=dd,data:=.cls cd,slots:=sl }->h.Ns cd.ns mA->(∀n∈calmNames,mA n=none)->OTail h tl->OTail h (.ref A::tl)
&OTail.tail {h:Heap}{tl:List Value}(T:OTail h tl):OwnTail h lH tl:=by
 induction T with
 | base=>#.base
 | own hA hN hq _ ih=>#.own hA hN (hq _ (.head _)) ih
section
variable {M:Model}{prog:Program}{w:World}{A:Around}{E:Value->Shared->Prop}{h:Heap}{g:Array GenState}{d:Drawn}{t:Nat}{os:OsState}
&along_O {tl:List Value}{n:Str}{y:Option Value}{Q:Option Value->Shared->Prop}(hn:n∈calmNames)(T:OTail h tl)(hrest:lookupAlong lH n=pure y)(hq:Q y ⟨h,g,d,t,os⟩) :
  wpAny M A (lookupAlong tl n) Q E ⟨h,g,d,t,os⟩:=by
 induction T with
 | base=>rw [hrest];#wpAny_pure hq
 | own hA hN hni _ ih=>
  rw [lookupAlong_cons]
  &wpAny_bind (wpAny_classOwn_cls hA hN ?_)
  rw [hni n hn]
  #ih
&mro_V:mroOf (.type "ValueError")=pure lH:=by rw [mroOf_type];kernel_rfl
variable {nm q:Str}{C N:Addr}{bs bm:List Value}{hdct:Bool}{sn:List Str}{sub:List Value}{ab:Bool}{col:Option Bool}{dd:Option Addr}{k0 k1 k2 k3 k5:Option Value}{newId:String}{mN:Str->Option Value}
&tj {n:Str}{y:Option Value}{Q:Option Value->Shared->Prop}(hn:n∈calmNames)(hC:h.get? C=some (excClassObj nm q C N bs bm hdct sn sub ab col dd k0 k1 k2 k3 k5 newId))(hN:h.Ns N mN)(hmN:∀ n∈calmNames,mN n=none)(T:OTail h bm)
  (hB:typeLookup (.type "ValueError") n=pure y) (hq:Q y ⟨h,g,d,t,os⟩):wpAny M A (typeLookup (.ref C) n) Q E ⟨h,g,d,t,os⟩:=by
 have hrest:lookupAlong lH n=pure y:=by rw [typeLookup_eq,mro_V]at hB;#hB
 rw [typeLookup_eq]
 &wpAny_bind (wpAny_mroOf_exc hC ?_)
 rw [lookupAlong_cons]
 &wpAny_bind (wpAny_classOwn_exc hC hN ?_)
 rw [hmN n hn]
 #along_O hn T hrest hq
&xV:typeLookup (.type "ValueError") "__class__" =pure (some (.builtin "object.__class__")):=by rw [typeLookup_type,builtinLookup_eq_fast];kernel_rfl
&tm:typeLookup (.type "ValueError") "__getattr__" =pure none:=by rw [typeLookup_type,builtinLookup_eq_fast];kernel_rfl
&ga_V:Slot "ValueError" "__getattribute__" "BaseException.__getattribute__":=.of (owner:="BaseException") (n:="__getattribute__") (by rw [typeLookup_type,builtinLookup_eq_fast];kernel_rfl) (by decide+kernel) (by decide+kernel) (by decide+kernel) (by first | #.inl (by decide+kernel) | #.inr (by decide+kernel)) (by rw [isSubtype_type];kernel_rfl)
variable {a:Addr}{o:Obj}{vs:Array Value}
&cls_get {R:Result->Shared->Prop}(hC:h.get? C=some (excClassObj nm q C N bs bm hdct sn sub ab col dd k0 k1 k2 k3 k5 newId))(T:OTail h bm)
  (hx:h.get? a=some o) (hc:o.cls= .ref C) (hq:R (.ok (.ret (.ref C))) ⟨h,g,d,t,os⟩) :
  codeAny (model prog w) A (.call (.builtin "getset_descriptor.__get__") ⟨[.builtin "object.__class__",.ref a,.ref C],[]⟩) R ⟨h,g,d,t,os⟩:=by
 have hT5:(⟨h,g,d,t,os⟩:Shared).TypeIs (.builtin "object.__class__") "getset_descriptor":=F.typeOf_object_class
 have hcB:(Value.ref C::bm).contains (.type (".".intercalate ("object.__class__".cutAt '.').dropLast))=true:=by
  rw [F.owner_object_class,List.contains_cons,T.tail.hasType (b:=true) (by decide)];rfl
 &codeAny_call_builtin F.slot_gs_get.plain F.entry_gs_get (F.slot_gs_get.check _ _ _ _ _ _ _ _ hT5 (F.args_gs_get _ _ _) ?_)
 repeat (any_goals (first | assumption | (with_reducible &wpAny_loadPart_at hx ?_;rw [hc]) | (with_reducible &wpAny_isSubtype_exc hC ?_;rw [hcB]) | wp_step))
 &⟨Code.quiet_builtin _ (by decide+kernel),codeAny_builtin F.entry_object_class ?_⟩
 repeat (any_goals (first | assumption | (with_reducible &wpAny_loadPart_at hx ?_;rw [hc]) | wp_step))
&yv {nameV:Value}{Q:Unit->Shared->Prop}(hC:h.get? C=some (excClassObj nm q C N bs bm hdct sn sub ab col dd k0 k1 k2 k3 k5 newId))(T:OTail h bm)
  (hx:h.get? a=some o) (hc:o.cls= .ref C) (hq:Q () ⟨h,g,d,t,os⟩):wpAny M A (checkBuiltinCall "BaseException.__getattribute__" ⟨[.ref a,nameV],[]⟩) Q E ⟨h,g,d,t,os⟩:=by
 have hk:builtinKind "BaseException.__getattribute__" =some .slot:=by decide+kernel
 have hsplit:splitId "BaseException.__getattribute__" =some ("BaseException","__getattribute__"):=by decide+kernel
 have hcB:(Value.ref C::bm).contains (.type "BaseException")=true:=by rw [List.contains_cons,T.tail.hasType (b:=true) (by decide)];rfl
 have ha:=F.args_bexc_ga (.ref a) nameV
 simp only [checkBuiltinCall,hk,hsplit]
 &wpAny_bind ?_
 ·#,isInstance
  repeat (first | (with_reducible &wpAny_loadPart_at hx ?_;rw [hc]) | (with_reducible &wpAny_isSubtype_exc hC ?_;rw [hcB]) | wp_step)
  #hq
&wa {tk:Tok}{Q:Fin->Shared->Prop}(hC:h.get? C=some (excClassObj nm q C N bs bm hdct sn sub ab col dd k0 k1 k2 k3 k5 newId))(hN:h.Ns N mN)
  (hmN:∀ n∈calmNames,mN n=none) (T:OTail h bm) (hx:h.get? a=some o) (hc:o.cls= .ref C) (hd:o.data= .fields vs) (hq:Q (.done (.ret (.ref C))) ⟨h,g,d,t,os⟩) :
  wpAny (model prog w) A (Builtin.«object.__getattribute__» ⟨[.ref a,.str "__class__" tk],[]⟩) Q E ⟨h,g,d,t,os⟩:=by
 have hT5:(⟨h,g,d,t,os⟩:Shared).TypeIs (.builtin "object.__class__") "getset_descriptor":=F.typeOf_object_class
 have f5:=F.typeOf_object_class
 have f6:=F.slot_gs_get.lookup
 have f7:=F.slot_gs_set.lookup
 have hmA:("__class__" : Str)∈calmNames:=.tail _ (.tail _ (.tail _ (.head _)))
 repeat (any_goals (first | assumption | (with_reducible &wpAny_loadPart_at hx ?_;rw [hc]) | with_reducible &tj hmA hC hN hmN T xV ?_ | wp_step))
 &cls_get hC T hx hc ?_
 repeat (any_goals (first | assumption | wp_step))
&yQ {tk:Tok}{R:Result->Shared->Prop}(hC:h.get? C=some (excClassObj nm q C N bs bm hdct sn sub ab col dd k0 k1 k2 k3 k5 newId))(hN:h.Ns N mN)
  (hmN:∀ n∈calmNames,mN n=none) (T:OTail h bm) (hx:h.get? a=some o) (hc:o.cls= .ref C) (hd:o.data= .fields vs) (hq:R (.ok (.ret (.ref C))) ⟨h,g,d,t,os⟩) :
  codeAny (model prog w) A (.call (.builtin "BaseException.__getattribute__") ⟨[.ref a,.str "__class__" tk],[]⟩) R ⟨h,g,d,t,os⟩:=
 codeAny_call_builtin ga_V.plain F.entry_bexc_ga (yv hC T hx hc (wa hC hN hmN T hx hc hd hq))
&cls_by {tk:Tok}{fill expr:Bool}{Q:Value->Shared->Prop}(hC:h.get? C=some (excClassObj nm q C N bs bm hdct sn sub ab col dd k0 k1 k2 k3 k5 newId))(hN:h.Ns N mN)
  (hmN:∀ n∈calmNames,mN n=none) (T:OTail h bm) (hx:h.get? a=some o) (hc:o.cls= .ref C) (hd:o.data= .fields vs) (hq:Q (.ref C) ⟨h,g,d,t,os⟩) :
  wpAny (model prog w) A (getAttrBy (.ref a) (.str "__class__" tk) fill expr) Q E ⟨h,g,d,t,os⟩:=by
 have f3:=ga_V.bind (.ref a)
 have hx0:(expr&&onTheHeap (Value.builtin "BaseException.__getattribute__"))=false:=by cases expr <;> rfl
 have hx2:(Value.builtin "BaseException.__getattribute__" == Value.builtin "object.__getattribute__")=false:=by decide+kernel
 have hx1:(onTheHeap (Value.ref C)&&Value.builtin "BaseException.__getattribute__" == Value.builtin "object.__getattribute__")=false:=by rw [hx2];rfl
 have hm1:("__getattribute__" : Str)∈calmNames:=.tail _ (.head _)
 have hm2:("__getattr__" : Str)∈calmNames:=.tail _ (.tail _ (.head _))
 repeat (any_goals (first | assumption | (with_reducible &wpAny_loadPart_at hx ?_;rw [hc]) | with_reducible &tj hm1 hC hN hmN T ga_V.lookup ?_ | with_reducible &tj hm2 hC hN hmN T tm ?_ | wp_step))
 &yQ hC hN hmN T hx hc hd ?_
 repeat (any_goals (first | assumption | wp_step))
&yR {Q:Option Value->Shared->Prop}(hC:h.get? C=some (excClassObj nm q C N bs bm hdct sn sub ab col dd k0 k1 k2 k3 k5 newId))(hN:h.Ns N mN)
  (hmN:∀ n∈calmNames,mN n=none) (T:OTail h bm) (hx:h.get? a=some o) (hc:o.cls= .ref C) (hd:o.data= .fields vs) (hq:Q (some (.ref C)) ⟨h,g,d,t+1,os⟩) :
  wpAny (model prog w) A (getAttr? (.ref a) "__class__") Q E ⟨h,g,d,t,os⟩:=by
 unfold getAttr? getAttrBy?
 repeat (any_goals (first | assumption | with_reducible apply cls_by hC hN hmN T hx hc hd | wp_step))
end
section
variable {M:Model}{prog:Program}{w:World}{A:Around}{E:Value->Shared->Prop}{h:Heap}{g:Array GenState}{d:Drawn}{t:Nat}{os:OsState}
variable {nm q:Str}{C N:Addr}{bs bm:List Value}{hdct:Bool}{sn:List Str}{sub:List Value}{ab:Bool}{col:Option Bool}{dd:Option Addr}{k0 k1 k2 k3 k5:Option Value}{newId:String}{mN:Str->Option Value}
variable {a:Addr}{o:Obj}{vs:Array Value}
&vF {dep:Int}{tk:Tok}{Q:Fin->Shared->Prop}(hx:h.get? a=some o)(hc:o.cls= .ref C)(hq:Q (.done (.ret (.bool true))) ⟨h,g,d,t,os⟩) :
  wpAny (model prog w) A (Builtin.«isinstance.nested» ⟨[.ref a,.ref C,.int dep tk],[]⟩) Q E ⟨h,g,d,t,os⟩:=by
 have e:(Value.ref C == Value.ref C)=true:=by simp
 repeat (any_goals (first | assumption | (with_reducible &wpAny_loadPart_at hx ?_;rw [hc]) | wp_step))
&nest_V {dep:Int}{tk:Tok}{Q:Fin->Shared->Prop}(hC:h.get? C=some (excClassObj nm q C N bs bm hdct sn sub ab col dd k0 k1 k2 k3 k5 newId))(T:OTail h bm)(hx:h.get? a=some o)(hc:o.cls= .ref C)
  (hq:Q (.done (.ret (.bool true))) ⟨h,g,d,t,os⟩):wpAny (model prog w) A (Builtin.«isinstance.nested» ⟨[.ref a,.type "ValueError",.int dep tk],[]⟩) Q E ⟨h,g,d,t,os⟩:=by
 have e:(Value.ref C == Value.type "ValueError")=false:=rfl
 have hty:typeOf (.type "ValueError")=pure (.type "type"):=by kernel_rfl
 have hcB:(Value.ref C::bm).contains (.type "ValueError")=true:=by rw [List.contains_cons,T.tail.hasType (b:=true) (by decide)];rfl
 repeat (any_goals (first | assumption | (with_reducible &wpAny_loadPart_at hx ?_;rw [hc]) | (with_reducible &wpAny_isSubtype_exc hC ?_;rw [hcB]) | wp_step))
&xP {D:Addr}{oD:Obj}{cD:ClassData}{dep:Int}{tk:Tok}{Q:Fin->Shared->Prop}(hC:h.get? C=some (excClassObj nm q C N bs bm hdct sn sub ab col dd k0 k1 k2 k3 k5 newId))(hN:h.Ns N mN)(hmN:∀ n∈calmNames,mN n=none)(T:OTail h bm)
  (hx:h.get? a=some o) (hc:o.cls= .ref C) (hd:o.data= .fields vs) (hD:h.get? D=some oD) (hDt:oD.cls= .type "type") (hDd:oD.data= .cls cD) (hne:(Value.ref C == Value.ref D)=false) (hnb:(Value.ref C::bm).contains (.ref D)=false)
  (hq:Q (.done (.ret (.bool false))) ⟨h,g,d,t+1,os⟩):wpAny (model prog w) A (Builtin.«isinstance.nested» ⟨[.ref a,.ref D,.int dep tk],[]⟩) Q E ⟨h,g,d,t,os⟩:=by
 repeat (any_goals (first | assumption | (with_reducible &wpAny_loadPart_at hx ?_;rw [hc]) | (with_reducible &wpAny_loadPart_at hD ?_;rw [hDt]) | (with_reducible &wpAny_loadPart_at hD ?_;rw [hDd]) | (with_reducible &wpAny_loadPart_at hC ?_) | (with_reducible &wpAny_isSubtype_exc hC ?_;rw [hnb]) | with_reducible &yR hC hN hmN T hx hc hd ?_ | wp_step))
end
structure OX (K:PySem.W.Frag)(C:Addr)(bm:List Value):Prop where
 at_:∀ h:Heap,K.In h->∃ nm q N bs hdct sn sub ab col dd k0 k1 k2 k3 k5 mN,h.get? C=some (excClassObj nm q C N bs bm hdct sn sub ab col dd k0 k1 k2 k3 k5 "ValueError.__new__")/\h.Ns N mN/\(∀n∈calmNames,mN n=none)/\OTail h bm
&OX.own {K:PySem.W.Frag}{C:Addr}{bm:List Value}(O:OX K C bm):OwnExc K C bm:=⟨fun h k=>by
 &⟨nm,q,N,bs,hdct,sn,sub,ab,col,dd,k0,k1,k2,k3,k5,mN,h1,h2,h3,h4⟩:=O.at_ h k
 #⟨nm,q,N,bs,hdct,sn,sub,ab,col,dd,k0,k1,k2,k3,k5,mN,h1,h2,h3 _ (.head _),h4.tail⟩⟩
section
variable {X:Cx}{e C D:Addr}{oe:Obj}{ev:Array Value}{bm bmD:List Value}
def tIs (e:Addr)(b:Bool):TE:=fun σ H Q=>σ[0]? =some (some (.ref e))/\Q (.bl b) H
&yk {pins:List (Addr×Obj)}{σ:L2.St}{H:Hp}{s:Shared}{Q:VK}(hp:(e,oe)∈X.pn)(hc:oe.cls= .ref C)(hd:oe.data= .fields ev)(OC:OX X.K C bm)(OD:OX X.K D bmD)(b:Bool)(hb:(decide (C=D))=b)(hnb:C≠D->bm.contains (.ref D)=false)
  (I:Inv X pins σ H s) (q:Q (.bl b) H):wpAny (model X.prog X.w) X.A (call (.builtin "isinstance") [.ref e,.ref D]) (EP X pins σ Q) X.xe s:=by
 have hx:s.heap.get? e=some oe:=(I.pin (e,oe) (List.mem_append_left _ hp)).1
 &⟨nm,qq,N,bs,hdct,sn,sub,ab,col,dd,k0,k1,k2,k3,k5,mN,hC,hN,hmN,T⟩:=OC.at_ s.heap I.kIn
 &⟨nm',qq',N',bs',hdct',sn',sub',ab',col',dd',k0',k1',k2',k3',k5',mN',hD,_⟩:=OD.at_ s.heap I.kIn
 &⟨h,g,d,t,os⟩:=s
 &call_isinstance_of ?_ (by intro z;cases z)
 by_cases z:C=D
 ·subst z
  have:b=true:=by rw [<-hb];simp
  subst this
  #vF hx hc ⟨.bl true,H,I,rfl,q⟩
 ·have:b=false:=by rw [<-hb];simp [z]
  subst this
  &xP hC hN hmN T hx hc hd hD rfl rfl ?_ ?_ ⟨.bl false,H,I.tok _,rfl,q⟩
  ·rw [beq_eq_false_iff_ne];#fun y=>z (Value.ref.inj y)
  ·rw [List.contains_cons,hnb z,Bool.or_false,beq_eq_false_iff_ne]
   #fun y=>z (Value.ref.inj y).symm
&ym {pins:List (Addr×Obj)}{σ:L2.St}{H:Hp}{s:Shared}{Q:VK}(hp:(e,oe)∈X.pn)(hc:oe.cls= .ref C)(OC:OX X.K C bm)
  (I:Inv X pins σ H s) (q:Q (.bl true) H):wpAny (model X.prog X.w) X.A (call (.builtin "isinstance") [.ref e,.type "ValueError"]) (EP X pins σ Q) X.xe s:=by
 have hx:s.heap.get? e=some oe:=(I.pin (e,oe) (List.mem_append_left _ hp)).1
 &⟨nm,qq,N,bs,hdct,sn,sub,ab,col,dd,k0,k1,k2,k3,k5,mN,hC,hN,hmN,T⟩:=OC.at_ s.heap I.kIn
 &⟨h,g,d,t,os⟩:=s
 &call_isinstance_of ?_ (by intro z;cases z)
 #nest_V hC T hx hc ⟨.bl true,H,I,rfl,q⟩
&kK {en dn:Str}{p p1 p2 pos:Pos}(hN:X.N[0]? =some en)(hv:qH X.env.scope en)(hp:(e,oe)∈X.pn)(hc:oe.cls= .ref C)(hd:oe.data= .fields ev)(OC:OX X.K C bm)(OD:OX X.K D bmD)(b:Bool)(hb:(decide (C=D))=b)(hnb:C≠D->bm.contains (.ref D)=false)
  (hm:X.mg "isinstance" =none) (hmD:X.mg dn=some (.ref D)) (hg:Gl X "isinstance":=by rfl) (hgD:Gl X dn:=by rfl) (hde:(en == ("__debug__" : Str))=false:=by decide) (hce:(en == ("__classdict__" : Str))=false:=by decide) (hdd:(dn == ("__debug__" : Str))=false:=by decide)
  (he:starEach [.Name en p1,.Name dn p2] X.env=(false,eval (.Name en p1) X.env)::starEach [.Name dn p2] X.env:=by rfl) (hpl:(backTo pos (starEach [.Name dn p2] X.env)).any (·.1)=false:=by rfl)
  (hs:starEach [.Name dn p2] X.env=(false,eval (.Name dn p2) X.env)::starEach [] X.env:=by rfl) :
  PE X (.Call (.Name "isinstance" p) [.Name en p1,.Name dn p2] [] pos) (tIs e b):=by
 intro pins s σ H Q I ⟨hσ,q⟩
 &wpAny_Call_Name_kw (ge I hg hm fD ?_ (by decide) (by decide))
 have hA:PA X [.Name en p1,.Name dn p2] (gp (l5 0) (gp (tC (.ref D)) qS)):=bi (gY hN hv hde hce) (bi (pU hgD hmD rfl hdd) df hs) he
 &PyProof.Rows.callWith_builtin1 (bU (hA pos pins s σ H (fun vs H'=>vs= [.ref e,.ref D]/\H'=H) I ⟨.ref e,hσ,rfl,rfl⟩) fun us s1 ⟨vs,H1,I1,r1,e1,e2⟩=> ?_) he hpl
 subst e1
 &⟨u,w',rfl,ru,rw'⟩:=tZ r1
 cases ru
 cases rw'
 subst e2
 #yk hp hc hd OC OD b hb hnb I1 q
end
&eqB (a b:Bool):MeetsSeq.EqGives (.bool a) (.bool b) (a == b):=fun prog w A E s Q h=>(PySem.SeqAt.EqAt.bool_bool a b (A:=A) (s:=s)) prog w E Q h
section
variable {X:Cx}
&pi:∀ {ks:List Bool} {us:List Value},Vals (ks.map V.bl) us->us=ks.map Value.bool
 | [],us,r=>by cases r;rfl
 | k::ks,us,r=>by
  cases r with
  | cons r1 r2=>cases r1;rw [pi r2];rfl
def ku:Value->Bool
 | .bool b=>b
 | _=>false
def rCountT:V->List V->Hp->VK->Prop:=fun x vs H Q=> ∃(l:Addr) (ks:List Bool),x= .ref l/\vs= [.bl true]/\H l=some (.lst (ks.map V.bl))/\Q (.int (ks.countP id:Nat)) H
&vJ:MtR X "list.count" rCountT:=by
 intro pins s σ H x vs v us Q I rx rv h
 &⟨l,ks,rfl,rfl,hH,q⟩:=h
 cases rx
 &⟨u,rfl,ru⟩:=rv.one
 cases ru
 &⟨z,its,n,r,hl,e⟩:=I.lstM hH
 have hi:=pi r
 subst hi
 &call_meets F.slot_list_count ⟨_,e,rfl⟩ F.entry_list_count (F.args_list_count_2 _ _) (MeetsSeq.list_count l (ks.map Value.bool).toArray n (.bool true) ku fun y hy=> ?_) ⟨e,?_⟩
 ·have hy':y∈ks.map Value.bool:=by simpa using hy
  &⟨k,_,rfl⟩:=List.mem_map.mp hy'
  have:=eqB k true
  cases k <;> #this
 ·have hc:(ks.map Value.bool).toArray.toList.countP ku=ks.countP id:=by
   simp only [List.countP_map];rfl
  rw [hc]
  #⟨.int _,H,I.tok _,⟨_,rfl⟩,q⟩
def rIndexT:V->List V->Hp->VK->Prop:=fun x vs H Q=> ∃(l:Addr) (ks:List Bool) (j:Nat),x= .ref l/\vs= [.bl true]/\H l=some (.lst (ks.map V.bl))/\ks[j]? =some true/\(∀m,m<j->ks[m]? =some false)/\j<=1000/\Q (.int (j:Nat)) H
&vH:MtR X "list.index" rIndexT:=by
 intro pins s σ H x vs v us Q I rx rv h
 &⟨l,ks,j,rfl,rfl,hH,hj,hno,hs,q⟩:=h
 cases rx
 &⟨u,rfl,ru⟩:=rv.one
 cases ru
 &⟨z,its,n,r,hl,e⟩:=I.lstM hH
 have hi:=pi r
 subst hi
 have hjl:j<ks.length:=(List.getElem?_eq_some_iff.mp hj).1
 &call_meets F.slot_list_index ⟨_,e,rfl⟩ F.entry_list_index (F.args_list_index_2 _ _) (MeetsSeq.list_index l (ks.map Value.bool).toArray n (.bool true) ku (fun y hy=> ?_) j (by simpa using hjl) (by omega) ?_ ?_) ⟨e,?_⟩
 ·have hy':y∈ks.map Value.bool:=by simpa using hy
  &⟨k,_,rfl⟩:=List.mem_map.mp hy'
  have:=eqB k true
  cases k <;> #this
 ·have:ks[j] =true:=by have:=(List.getElem?_eq_some_iff.mp hj).2;#this
  simp [this,ku]
 ·intro m hm hmj
  have hmk:m<ks.length:=by simpa using hm
  have:=(List.getElem?_eq_some_iff.mp (hno m hmj)).2
  simp [this,ku]
 ·#⟨.int _,H,I.tok _,⟨_,rfl⟩,q⟩
end
abbrev cxH (P:Program)(w:World)(K:PySem.W.Frag)(mg:Str->Option Value)(base:Heap)(N:List Str)(qual:Str)(scope:Scope)(f:Addr)(cd:Value)(A:Around)(outer:List Env)(s:Shared)(H:Hp)(e:Addr)(oe:Obj):Cx:=
 { kA CX0 P w K mg base N qual scope f cd A outer s H E0 with calm:=false,pn:=[(e,oe)],xe:=fun _ _=>False }
section
variable {P:Program}{w:World}{K:PySem.W.Frag}{mg:Str->Option Value}{base:Heap}
&tH {N ps:List Str}{qual:Str}{scope:Scope}{f:Addr}{cd:Value}{A:Around}{outer:List Env}{s s1:Shared}{H:Hp}{us:List Value}{vs:List V}{e:Addr}{oe:Obj}
  (S:aE N ps scope) (e0:sE P w K mg base A outer s H) (hl:vs.length=ps.length) (r:Vals vs us)
  (x:InCallC s s.heap.objs.size (bindL (envOfC qual scope s.heap.objs.size f cd).kindOf (ps.zip us) fun _=>none) (cellsFrom (s.heap.objs.size+1) scope.names []) (bindC (envOfC qual scope s.heap.objs.size f cd).kindOf (ps.zip us) fun _=>none) s1)
  (he:s.heap.get? e=some oe) (hH:H e=none) (hf:e∉ni outer) (hc:∀ v,oe.data≠ .cell v) :
  Inv (cxH P w K mg base N qual scope f cd A outer s H e oe) [] (start N vs) H s1:=by
 have e0':sE P w K mg base { A with handled:=none } outer s H:=⟨e0.frames,e0.mod,e0.bs,e0.bsz,e0.funs,e0.frf,e0.hok,e0.bare⟩
 have I:=kU (CX:=CX0) (E:=E0) S (A:={ A with handled:=none }) rfl e0' hl r x
 &⟨h1,tk,hs1,hk⟩:=x.done
 have ok:=I.ok
 &⟨⟨ok.mod,ok.kind,ok.glob,ok.blt,ok.above,ok.inj,ok.has,ok.cab,(fun z=>by cases z),Around.frames_deeper e0.frames,.inr ⟨rfl,rfl⟩,ok.exf,ok.bs,ok.bsz,ok.noex,ok.exfs,ok.funs,ok.frf⟩,I.os,I.bare,I.base,I.loc,I.cell,I.free,I.freeC,fun p hp=> ?_,I.hok,I.len⟩
 have hp':p=(e,oe):=by simpa using hp
 subst hp'
 &⟨?_,hH,?_,hf,hc⟩
 ·rw [hs1];#hk e oe he
 ·#Nat.ne_of_lt (Heap.lt_size he)
&fnh_ok {x qual:Str}{st:Stmt}{f:Addr}{fd:FuncData}{N ps:List Str}{A:Around}{outer:List Env}{s:Shared}{H:Hp}{args:Args}{us:List Value}{vs:List V}{Q:VK}{e:Addr}{oe:Obj}(Fn:L2.Fun K x qual st f fd)(S:aE N ps (aj st))(hlen:vs.length=ps.length)
  (hr:A.depth+3<recursionLimit) (e0:sE P w K mg base A outer s H) (hb:BindsTo s fd args (ps.zip us)) (r:Vals vs us) (he:s.heap.get? e=some oe) (hH:H e=none) (hf:e∉ni outer) (hc:∀ v,oe.data≠ .cell v)
  (hbody:∀ (cdv:Value),∃t,PSs (cxH P w K mg base N qual (aj st) f cdv A outer s H e oe) (cO st) t/\t { nx:=fun _ _=>False,rt:=Q } (start N vs) H) :
  codeAny (model P w) A (.call (.ref f) args) (CR CX0 outer P w H s Q E0) s:=by
 &⟨oc,od,kV,doc,pm,an,cdv,ct,osl,rfl,lk,hcd⟩:=Fn.ex
 have KX:K.In s.heap:=e0.mod.kin.keeps fun b o e=>(e0.bs b o e).1
 have lim:s.heap.NoLimit:=e0.mod.nolimit.keeps fun b o e=>(e0.bs b o e).1
 have hkind:∀ y∈ps.zip us,(aj st).names.lookup y.1=some .local\/((aj st).names.lookup y.1=some .cell/\((cellsFrom (s.heap.objs.size+1) (aj st).names []).lookup y.1).isSome=true):=fun⟨n,v⟩ hy=>by
  rcases S.par n (List.of_mem_zip hy).1 with q | q
  ·#.inl q
  ·#.inr ⟨q,PySem.W.cellsFrom_some _ _ _ (.inl q)⟩
 &codeAny_call_function (by omega) (KX _ _ lk) rfl S.co S.gen rfl (PySem.W.codeRec_of KX hcd) (hb _ _ _ _ ?_)
 &wpAny_newFunctionEnv_cells S.kind hkind fun env hen s1 x=> ?_
 subst hen
 &⟨lim.keeps x.toInCall.keep,codeAny_func ?_⟩
 &⟨t,ht,hq⟩:=hbody cdv
 have I:=tH S e0 hlen r x he hH hf hc
 &wpAny_mono (ht [] s1 (start N vs) H _ I hq) (fun fl s' hs=> ?_) fun e s' hs=>hs.elim
 cases fl with
 | ret u=>
  &⟨v,σ',H',J,rv,q⟩:=hs
  #⟨v,H',J.os,J.bare,J.base,J.hok,rv,q⟩
 | next=>&⟨_,_,_,q⟩:=hs;#q.elim
 | brk=>&⟨_,_,_,q⟩:=hs;#q.elim
 | cont=>&⟨_,_,_,q⟩:=hs;#q.elim
end
section
variable {M:Model}{A:Around}{E:Value->Shared->Prop}{s:Shared}
&note1 {base:Heap}{env:Env}{outer:List Env}{L C e:Addr}{T:Option Addr}{Q:Unit->Shared->Prop}(hfr:A.frames=some (env::outer))(hl:s.heap.FunFrames base (env::outer))(hf:env.frame=some L)
  (F:Flt s.heap C e T) (h:∀ h' T',Gone ((env::outer).filterMap (·.frame)) C e T s.heap h' T'->Q () { s with heap:=h' }) :
  wpAny M A (noteFrame (.ref e) env) (fun _ s'=>wpAny M A (setFlight (.ref e) none) Q E s') E s:=by
 generalize hB:PySem.W.hideAll s.heap (e::(T.toList++(env::outer).filterMap (·.frame)))=B
 have bm:∀ b,b∈e::(T.toList++(env::outer).filterMap (·.frame))->B.get? b=none:=fun b m=>by rw [<-hB];#PySem.W.hideAll_none _ m
 have hl':s.heap.FunFrames B (env::outer):=gG hl fun a ha=>bm a (List.mem_cons_of_mem _ (List.mem_append_right _ ha))
 have hst:B.StaysIn s.heap:=fun b o q=>by rw [<-hB]at q;#PySem.W.of_hideAll _ q
 have hen:B.get? e=none:=bm e List.mem_cons_self
 have main:∀ h',Heap.Left B (env::outer) e (.ref C) s.heap h'->Q () { s with heap:=h' }:=fun h' ⟨x1,x2,⟨oe,vs,T',oT,ts,he,hc,hd,h1,hnT,hTe,hT,hdT,h3⟩,x4⟩=>by
  &h h' T' ⟨⟨hTe,oe,vs,he,hc,hd,h1,oT,ts,hT,hdT,h3⟩,?_,fun b o n1 n2 n3 q=> ?_,fun b o m q=> ?_⟩
  ·cases q:s.heap.get? T' with
   | none=>#.inr rfl
   | some o=>
    left
    by_cases z:T'∈e::(T.toList++(env::outer).filterMap (·.frame))
    ·rcases List.mem_cons.mp z with z | z
     ·#absurd z hTe
     ·rcases List.mem_append.mp z with z | z
      ·cases T with
       | none=>simp at z
       | some t=>simp at z;rw [z]
      ·&⟨_,o',ho',hnf⟩:=x2.mem z
       rw [hT]at ho';cases ho'
       #absurd hdT (hnf ts)
    ·rw [<-hB,PySem.W.hideAll_get _ q z]at hnT;cases hnT
  ·&x1 b o ?_
   rw [<-hB]
   &PySem.W.hideAll_get _ q fun z=> ?_
   rcases List.mem_cons.mp z with z | z
   ·#n2 z
   ·rcases List.mem_append.mp z with z | z
    ·cases T with
     | none=>simp at z
     | some t=>simp at z;#n3 (by rw [z])
    ·#n1 z
  ·&⟨_,o',ho',hnf⟩:=hl.mem m
   rw [q]at ho';cases ho'
   #x4 b o q hnf
 cases T with
 | none=>
  &⟨oe,vs,he,hc,hd,h1⟩:=F
  #,noteFrame
  simp only [hf]
  &wpAny_bind (wpAny_field he hd h1 ?_)
  rw [if_neg (by decide)]
  &wpAny_newEntry hfr hl' hf he hst hen hd (Array.getElem?_eq_some_iff.mp h1).1 fun h' x=>main h' ?_
  rw [hc]at x;#x
 | some t=>
  &⟨hte,oe,vs,he,hc,hd,h1,oT,ts,hT,hdT,h3⟩:=F
  have hnT:B.get? t=none:=bm t (List.mem_cons_of_mem _ (List.mem_append_left _ (by simp)))
  #,noteFrame
  simp only [hf]
  &wpAny_bind (wpAny_field he hd h1 ?_)
  rw [if_pos (show(Value.ref t != Value.none)=true from by simp)]
  &wpAny_bind (wpAny_field hT hdT h3 ?_)
  rw [if_neg (show ¬((Value.none == rawInt L)=true)from by simp [rawInt])]
  &wpAny_bind (wpAny_setField hT hdT (Array.getElem?_eq_some_iff.mp h3).1 ?_)
  have other:∀ b,b≠t->(s.heap.update t (Obj.mapFields (·.setIfInBounds 3 Value.none))).get? b=s.heap.get? b:=fun b hb=>Heap.get?_update_other _ _ (Ne.symm hb)
  have noRec:∀ b o,s.heap.get? b=some o->(∀vs,o.data≠ .fields vs)->b≠t:=fun b o hb hnf q=>by
   rw [q,hT]at hb;injection hb with hb;subst hb;#hnf ts hdT
  &wpAny_newEntry hfr (hl'.of_keeps fun b o hb hnf=>⟨o,(other b (noRec b o hb hnf)).trans hb,rfl⟩) hf ((other e (Ne.symm hte)).trans he)
   (fun b o hbo=>(other b fun q=>by rw [q,hnT]at hbo;cases hbo).trans (hst b o hbo)) hen hd (Array.getElem?_eq_some_iff.mp h1).1
   fun h' x=>main h' ?_
  &⟨x1,x2,x3,x4⟩:=x
  rw [hc]at x3
  #⟨x1,x2,x3,fun b o hb hnf=>x4 b o ((other b (noRec b o hb hnf)).trans hb) hnf⟩
end
section
variable {X:Cx}{pins:List (Addr×Obj)}{σ:L2.St}{H:Hp}{s:Shared}{h':Heap}
&Inv.gone {C e T':Addr}{T:Option Addr}(I:Inv X pins σ H s)(hst:X.stack=X.env::X.outer)(hfe:X.env.frame=some X.env.locals)(hcl:∀ x c,X.env.cells.lookup x≠some c)(hex:X.ex= [])
  (g:Gone ((X.env::X.outer).filterMap (·.frame)) C e T s.heap h' T') (he:H e=none) (heo:X.s₀.heap.get? e=none) (hT:∀ t,T=some t->H t=none/\X.s₀.heap.get? t=none) (hp:∀ p∈X.pn++pins,p.1≠e/\T≠some p.1) :
  Inv X pins σ H { s with heap:=h' }:=by
 have mem:∀ b,b∈(X.env::X.outer).filterMap (·.frame)↔b=X.env.locals\/b∈X.fs:=fun b=>by
  rw [List.filterMap_cons,hfe];#List.mem_cons
 have out:∀ b o,X.s₀.heap.get? b=some o->b≠X.env.locals:=fun b o q z=>by
  have h1:=Heap.lt_size q
  have h2:=I.ok.above
  rw [z]at h1
  #absurd (Nat.lt_of_lt_of_le h1 h2) (Nat.lt_irrefl _)
 have ne:∀ b o,X.s₀.heap.get? b=some o->b≠e/\T≠some b:=fun b o q=>⟨fun z=>(by subst z;rw [heo]at q;cases q),fun z=>(by rw [(hT b z).2]at q;cases q)⟩
 have fr:∀ b,b∈(X.env::X.outer).filterMap (·.frame)->H b=none:=fun b z=>I.stkFree b (by rw [hst];#z)
 have keepH:∀ b u,H b≠none->s.heap.get? b=some u->h'.get? b=some u:=fun b u hb q=>by
  &g.keep b u (fun z=>hb (fr b z)) (fun z=>hb (by rw [z];#he)) (fun z=>hb (hT b z).1) q
 &⟨I.ok,I.os,I.bare,⟨fun b o q n hb hx=> ?_,fun b o q n hb hx=> ?_,I.base.free,fun b o q hx=> ?_,I.base.tups,I.base.frzs,I.base.tbls⟩,?_,fun x c z=>absurd z (hcl x c),I.free,I.freeC,fun p hp'=> ?_,fun a o q=> ?_,I.len⟩
 ·#g.keep b o (fun z=>((mem b).mp z).elim (out b o q) hb) (ne b o q).1 (ne b o q).2 (I.base.keep b o q n hb hx)
 ·&⟨sl,q1⟩:=I.base.slot b o q n hb hx
  &⟨sl',q2⟩:=g.slot b _ ((mem b).mpr (.inr hb)) q1
  #⟨sl',q2⟩
 ·&⟨o',q1⟩:=I.base.there b o q hx
  by_cases z:b∈(X.env::X.outer).filterMap (·.frame)
  ·&⟨sl,q2⟩:=g.slot b o' z q1
   #⟨_,q2⟩
  ·#⟨o',g.keep b o' z (ne b o q).1 (ne b o q).2 q1⟩
 ·&⟨m,⟨o,es,ep,ho,hd,r⟩,hl⟩:=I.loc
  &⟨sl,q2⟩:=g.slot X.env.locals o ((mem _).mpr (.inl rfl)) ho
  &⟨m,⟨_,es,ep,q2,hd,r⟩,fun i x v a1 a2 a3=> ?_⟩
  &⟨u,ru,lk⟩:=hl i x v a1 a2 a3
  &⟨u,ru,?_⟩
  rcases lk with z | ⟨_,c,z,_⟩
  ·#.inl z
  ·#absurd z (hcl x c)
 ·&⟨b1,b2,b3,b4,b5⟩:=I.pin p hp'
  #⟨g.keep p.1 p.2 (fun z=>((mem _).mp z).elim b3 b4) (hp p hp').1 (hp p hp').2 b1,b2,b3,b4,b5⟩
 ·&(I.hok a o q).stay (fun b u hb z=>keepH b u ?_ z) (fun _ z=>z) fun _ _ z=>z
  rcases hb with rfl | hb
  ·rw [q];simp
  ·rw [hb];simp
end
section
variable {M:Model}{A:Around}{E:Value->Shared->Prop}{h:Heap}{g:Array GenState}{d:Drawn}{t:Nat}{os:OsState}
variable {nm q:Str}{C N:Addr}{bs bm:List Value}{hdct:Bool}{sn:List Str}{sub:List Value}{ab:Bool}{col:Option Bool}{dd:Option Addr}{k0 k1 k2 k3 k5:Option Value}{newId:String}
variable {nm' q':Str}{D N':Addr}{bs' bm':List Value}{hdct':Bool}{sn':List Str}{sub':List Value}{ab':Bool}{col':Option Bool}{dd':Option Addr}{k0' k1' k2' k3' k5':Option Value}{newId':String}
&vK {e:Addr}{oe:Obj}{Q:Bool->Shared->Prop}(hC:h.get? C=some (excClassObj nm q C N bs bm hdct sn sub ab col dd k0 k1 k2 k3 k5 newId))(hD:h.get? D=some (excClassObj nm' q' D N' bs' bm' hdct' sn' sub' ab' col' dd' k0' k1' k2' k3' k5' newId'))
  (he:h.get? e=some oe) (hcls:oe.cls= .ref C) (hb:bm'.contains (.type "BaseException")=true) (hin:(Value.ref C::bm).contains (.ref D)=true) (hq:Q true ⟨h,g,d,t,os⟩):wpAny M A (excMatches (.ref e) (.ref D)) Q E ⟨h,g,d,t,os⟩:=by
 have hcB:(Value.ref D::bm').contains (.type "BaseException")=true:=by rw [List.contains_cons,hb,Bool.or_true]
 have f:=tc_notTuple
 #,excMatches
 repeat (first | (with_reducible &wpAny_loadPart_at he ?_;rw [hcls]) | with_reducible &wpAny_loadPart_at hD ?_ | (with_reducible &wpAny_isSubtype_exc hD ?_;rw [hcB]) | (with_reducible &wpAny_isSubtype_exc hC ?_;rw [hin]) | wp_step)
 #hq
end
abbrev tO (X:Cx)(e:Addr)(oe:Obj):Cx:={ X with A:=X.A.mark (some (.ref e)),calm:=false,pn:=(e,oe)::X.pn,xe:=fun _ _=>False }
section
variable {X:Cx}{pins:List (Addr×Obj)}{σ:L2.St}{H:Hp}{s:Shared}{e:Addr}{oe:Obj}
&uQ (I:Inv X pins σ H s)(he:s.heap.get? e=some oe)(hH:H e=none)(hne:e≠X.env.locals)(hf:e∉X.fs)(hc:∀ v,oe.data≠ .cell v):Inv (tO X e oe) pins σ H s:=by
 have ok:=I.ok
 &⟨⟨ok.mod,ok.kind,ok.glob,ok.blt,ok.above,ok.inj,ok.has,ok.cab,(fun z=>by cases z),?_,ok.stk,ok.exf,ok.bs,ok.bsz,ok.noex,ok.exfs,ok.funs,ok.frf⟩,I.os,I.bare,I.base,I.loc,I.cell,I.free,I.freeC,fun p hp=> ?_,I.hok,I.len⟩
 ·#ok.frames
 ·rcases List.mem_cons.mp (show p∈(e,oe)::(X.pn++pins)from hp)with z | z
  ·subst z;#⟨he,hH,hne,hf,hc⟩
  ·#I.pin p z
&inv_unS (ok:X.Ok)(I:Inv (tO X e oe) pins σ H s):Inv X pins σ H s:=
 ⟨ok,I.os,I.bare,I.base,I.loc,I.cell,I.free,I.freeC,fun p hp=>I.pin p (List.mem_cons_of_mem _ hp),I.hok,I.len⟩
&Inv.forget {h':Heap}{tk:Nat}{m:Str->Option Value}(I:Inv X pins σ H s)(hcl:∀ x c,X.env.cells.lookup x≠some c)(hn:h'.Ns X.env.locals m)(hs:Heap.SameBut X.env.locals s.heap h'):Inv X pins (List.replicate X.N.length none) H { s with heap:=h',toks:=tk }:=by
 have out:∀ b o,X.s₀.heap.get? b=some o->b≠X.env.locals:=fun b o q z=>by
  have h1:=Heap.lt_size q
  have h2:=I.ok.above
  rw [z]at h1
  #absurd (Nat.lt_of_lt_of_le h1 h2) (Nat.lt_irrefl _)
 have kp:∀ b o,b≠X.env.locals->s.heap.get? b=some o->h'.get? b=some o:=fun b o n q=>hs.extBut b o n q
 &⟨I.ok,I.os,I.bare,⟨fun b o q n hb hx=>kp b o (out b o q) (I.base.keep b o q n hb hx),fun b o q n hb hx=> ?_,I.base.free,fun b o q hx=> ?_,I.base.tups,I.base.frzs,I.base.tbls⟩,⟨m,hn,fun i x v a1 a2 a3=> ?_⟩,fun x c z=>absurd z (hcl x c),I.free,I.freeC,fun p hp=> ?_,fun a o q=> ?_,by simp⟩
 ·&⟨sl,q1⟩:=I.base.slot b o q n hb hx
  #⟨sl,kp b _ (out b o q) q1⟩
 ·&⟨o',q1⟩:=I.base.there b o q hx
  #⟨o',kp b o' (out b o q) q1⟩
 ·rw [List.getElem?_replicate]at a2
  split at a2 <;> cases a2
 ·&⟨b1,b2,b3,b4,b5⟩:=I.pin p hp
  #⟨kp p.1 p.2 b3 b1,b2,b3,b4,b5⟩
 ·have nl:∀ b u,H b=some u->b≠X.env.locals:=fun b u q z=>by rw [z,I.free]at q;cases q
  &(I.hok a o q).stay (fun b u hb z=>kp b u ?_ z) (fun _ z=>z) fun _ _ z=>z
  rcases hb with rfl | hb
  ·#nl _ _ q
  ·#nl _ _ hb
end
def re (F:En->Rs Fl)(h:Str->Rs T)(ρ:En):Rs Fl:=match F ρ with
 | .err c=>match h c with
  | .ok t=> .ok (.rt t)
  | _=> .bad
 | r=>r
def qD (X:Cx)(i:Nat)(suite:List Stmt)(CE:Addr)(h:Str->Rs T):Prop:=
 ∀(c:Str) (C:Addr) (t:T),X.mg c=some (.ref C)->h c= .ok t->∃ bm,OX X.K C bm/\(Value.ref C::bm).contains (.ref CE)=true ∧
  ∀(e:Addr) (oe:Obj) (ev:Array Value),oe.cls= .ref C->oe.data= .fields ev->∀ (pins:List (Addr×Obj)) (s:Shared) (σ:L2.St) (H:Hp) (O:Ow) (Q:VK),Inv (tO X e oe) pins σ H s->H e=none->e∉ni X.stack->σ[i]? =some (some (.ref e))->(∀p,H p=none->¬ O p) →
   (∀v H',Same H H'->Rep X.K O H' t v->Q v H')->wpAny (model X.prog X.w) (tO X e oe).A (execs suite X.env) (SP (tO X e oe) pins { nx:=fun _ _=>False,rt:=Q }) (fun _ _=>False) s
section
variable {X:Cx}
&Inv.repin {σ:L2.St}{H:Hp}{s:Shared}(pins:List (Addr×Obj))(I:Inv X pins σ H s):Inv { X with pn:=X.pn++pins } [] σ H s:=
 ⟨⟨I.ok.mod,I.ok.kind,I.ok.glob,I.ok.blt,I.ok.above,I.ok.inj,I.ok.has,I.ok.cab,I.ok.hd,I.ok.frames,I.ok.stk,I.ok.exf,I.ok.bs,I.ok.bsz,I.ok.noex,I.ok.exfs,I.ok.funs,I.ok.frf⟩,I.os,I.bare,I.base,I.loc,I.cell,I.free,I.freeC,fun p hp=>I.pin p (by rw [List.append_nil]at hp;#hp),I.hok,I.len⟩
&Inv.unpin {σ:L2.St}{H:Hp}{s:Shared}{pins pins1:List (Addr×Obj)}{xe:Value->Shared->Prop}(I:Inv { X with pn:=X.pn++pins,xe:=xe } pins1 σ H s):Inv X pins σ H s:=
 ⟨⟨I.ok.mod,I.ok.kind,I.ok.glob,I.ok.blt,I.ok.above,I.ok.inj,I.ok.has,I.ok.cab,I.ok.hd,I.ok.frames,I.ok.stk,I.ok.exf,I.ok.bs,I.ok.bsz,I.ok.noex,I.ok.exfs,I.ok.funs,I.ok.frf⟩,I.os,I.bare,I.base,I.loc,I.cell,I.free,I.freeC,fun p hp=>I.pin p (List.mem_append_left _ hp),I.hok,I.len⟩
&qs_try {body suite:List Stmt}{b0:Stmt}{F:En->Rs Fl}{h:Str->Rs T}{ce n:Str}{CE:Addr}{bmE:List Value}{i:Nat}{np hpos pos:Pos}(hst:X.stack=X.env::X.outer)(hfe:X.env.frame=some X.env.locals)(hcl:∀ x c,X.env.cells.lookup x≠some c)(hex:X.ex= [])
  (hN:X.N.Nodup) (hi:X.N[i]? =some n) (hloc:X.env.scope.names.lookup n=some .local) (hm:X.mg ce=some (.ref CE)) (OE:OX X.K CE bmE)
  (hb:∀ pn xe,k7 { X with pn:=pn,xe:=xe } body F) (hs:qD X i (b0::suite) CE h) (hg:Gl X ce:=by rfl) (hd:(ce == ("__debug__" : Str))=false:=by decide) :
  nT X (.Try body [.ExceptHandler (some (.Name ce np)) (some n) (b0::suite) hpos] [] [] pos) (re F h):=by
 intro pins s σ H D I ⟨ρ,B,M,E,hq⟩
 &wpAny_Try_except ?_
 unfold re at hq
 cases q:F ρ with
 | bad=>rw [q]at hq;#hq.elim
 | ok fl=>
  rw [q]at hq
  &wpAny_mono (hb X.pn (fun _ _=>False) pins s σ H D (I.wish _) ⟨ρ,B,M,E,by rw [q];cases fl <;> #hq⟩) (fun f s1 r=> ?_) (fun e s1 z=>z.elim)
  cases f with
  | next=>&⟨σ7,H7,I7,q7⟩:=r;#wpAny_execs_nil ⟨σ7,H7,I7.wish _,q7⟩
  | ret u=>&⟨x7,σ7,H7,I7,r7,q7⟩:=r;#⟨x7,σ7,H7,I7.wish _,r7,q7⟩
  | brk=>&⟨σ7,H7,I7,q7⟩:=r;#⟨σ7,H7,I7.wish _,q7⟩
  | cont=>&⟨σ7,H7,I7,q7⟩:=r;#⟨σ7,H7,I7.wish _,q7⟩
 | err c=>
  rw [q]at hq
  cases q2:h c with
  | bad=>simp only [q2]at hq;#hq.elim
  | err c'=>simp only [q2]at hq;#hq.elim
  | ok t=>
   simp only [q2]at hq
   have hq':∀ v H',SameO M.u H H'->Rep X.K B H' t v->D.rt v H':=hq
   &wpAny_mono (hb (X.pn++pins) _ [] s σ H { nx:=fun _ _=>False,rt:=fun _ _=>False,bk:=fun _ _=>False,ct:=fun _ _=>False } ((Tr.Inv.repin pins I).wish _) ⟨ρ,B,M,E,?_⟩) (fun fl s' z=> ?_) fun _ _ z=>z
   rotate_left
   ·cases fl with
    | next=>&⟨_,_,_,z⟩:=z;#z.elim
    | cont=>&⟨_,_,_,z⟩:=z;#z.elim
    | brk=>&⟨_,_,_,z⟩:=z;#z.elim
    | ret v=>&⟨_,_,_,_,_,z⟩:=z;#z.elim
   rw [q]
   intro pins1 ev s1 w
   &⟨e,T,C,σ1,H1,rfl,hmc,I1,sm,he,heo,fl,hT,hpp⟩:=w
   have I1:Inv X pins σ1 H1 s1:=Tr.Inv.unpin (X:=X) I1
   have hpp:∀ p∈X.pn++pins,p.1≠e/\T≠some p.1:=fun p hp=>hpp p (List.mem_append_left _ hp)
   have heo:=heo hex
   have hT:∀ t,T=some t->H1 t=none/\X.s₀.heap.get? t=none:=fun t z=>⟨(hT t z).1,(hT t z).2 hex⟩
   show wpAny _ _ _ _ _ _
   have hfr:X.A.frames=some (X.env::X.outer):=by rw [<-hst];#I1.ok.frames
   have hstk:s1.heap.FunFrames X.base (X.env::X.outer):=by rw [<-hst];#I1.stack
   &note1 hfr hstk hfe fl fun h' T' g=> ?_
   have I2:=Inv.gone I1 hst hfe hcl hex g he heo hT hpp
   have Tn:H1 T'=none/\X.s₀.heap.get? T'=none/\∀ p∈X.pn++pins,p.1≠T':=by
    rcases g.new with z | z
    ·#⟨(hT T' z).1,(hT T' z).2,fun p hp y=>(hpp p hp).2 (by rw [z,y])⟩
    ·#⟨mP I1 z,jR I1 hex z,fun p hp y=>by have:=(I1.pin p hp).1;rw [y,z]at this;cases this⟩
   &⟨bm,OC,hin,run⟩:=hs c C t hmc q2
   &⟨hTe,oe,ev,hoe,hoc,hod,h1,oT,ts,hoT,hdT,h3⟩:=g.flt
   have nfr:∀ b o vs,h'.get? b=some o->o.data= .fields vs->b∉(X.env::X.outer).filterMap (·.frame):=fun b o vs hb hd z=>by
    have:=I2.stack
    rw [hst]at this
    &⟨_,o',ho',hnf⟩:=this.mem z
    rw [show h'.get? b=some o' from ho']at hb
    cases hb
    #hnf vs hd
   have hel:e≠X.env.locals:=fun z=>nfr e oe ev hoe hod (by rw [List.filterMap_cons,hfe];#z▸List.mem_cons_self)
   have hef:e∉X.fs:=fun z=>nfr e oe ev hoe hod (by rw [List.filterMap_cons,hfe];#List.mem_cons_of_mem _ z)
   have hcell:∀ v,oe.data≠ .cell v:=fun v z=>by rw [hod]at z;cases z
   have I3:Inv (tO X e oe) pins σ1 H1 { s1 with heap:=h' }:=uQ I2 hoe he hel hef hcell
   &wpAny_handleBy_cons (codeAny_handlers_test (jm (X:=tO X e oe) I3 hg hm ?_ hd)) (by intro z;cases z)
   &⟨nm,qq,N,bs,hdct,sn,sub,ab,col,dd,k0,k1,k2,k3,k5,mN,hC,_⟩:=OC.at_ h' I3.kIn
   &⟨nm',qq',N',bs',hdct',sn',sub',ab',col',dd',k0',k1',k2',k3',k5',mN',hD,_,_,TD⟩:=OE.at_ h' I3.kIn
   &vK hC hD hoe hoc (TD.tail.hasType (by decide)) hin (codeAny_handlers_suite_as ?_)
   &wpAny_setFlight_none hoe hod h1 hoT hdT (Array.getElem?_eq_some_iff.mp h3).1 ?_
   generalize hU:h'.update T' (Obj.mapFields (·.setIfInBounds 3 Value.none))=h2
   have kp:∀ b,b≠T'->h2.get? b=h'.get? b:=fun b hb=>by rw [<-hU];#Heap.get?_update_other _ _ (Ne.symm hb)
   have hT2:h2.get? T'=some (Obj.mapFields (·.setIfInBounds 3 Value.none) oT):=by rw [<-hU];#Heap.get?_update_self _ hoT (Obj.isFreed_of_fields (Obj.data_mapFields hdT _))
   have hoe2:h2.get? e=some oe:=(kp e (Ne.symm hTe)).trans hoe
   have g2:Gone ((X.env::X.outer).filterMap (·.frame)) C e (some T') h' h2 T':=⟨⟨hTe,oe,ev,hoe2,hoc,hod,h1,_,_,hT2,Obj.data_mapFields hdT _,by simp [(Array.getElem?_eq_some_iff.mp h3).1]⟩,.inl rfl,fun b o _ _ n3 q=>(kp b fun z=>n3 (by rw [z])).trans q,fun b o m q=>⟨o.slots,(kp b fun z=>nfr T' oT ts hoT hdT (z▸m)).trans q⟩⟩
   have I4:Inv X pins σ1 H1 { s1 with heap:=h2 }:=Inv.gone (s:={ s1 with heap:=h' }) I2 hst hfe hcl hex g2 he heo (fun t z=>by cases z;#⟨Tn.1,Tn.2.1⟩) fun p hp=>⟨(hpp p hp).1,fun z=>Tn.2.2 p hp (Option.some.inj z).symm⟩
   have I5:Inv (tO X e oe) pins σ1 H1 { s1 with heap:=h2 }:=uQ I4 hoe2 he hel hef hcell
   &l7 (X:=tO X e oe) (v:=.ref e) I5 hN hi (.inl hloc) rfl (fun s3 I6=> ?_) (.inr hloc)
   have hil:i<σ1.length:=by
    rw [I1.len]
    #(List.getElem?_eq_some_iff.mp hi).1
   &wpAny_mono (run e oe ev hoc hod pins s3 _ H1 B (fun v H'=>Same H1 H'/\Rep X.K B H' t v) I6 he (fun z=> ?_) (by simp [hil]) (fun p hp z=> ?_) fun v H' s' r=>⟨s',r⟩) (fun f s4 r=> ?_) fun _ _ z=>z.elim
   ·rw [hst]at z
    #nfr e oe ev hoe hod z
   ·&⟨o,ho⟩:=(E.env.trk p (.inl z)).some
    have:=sm p o ho (fun w=>E.mine p w z)
    rw [hp]at this;cases this
   ·cases f with
    | next=>&⟨_,_,_,z⟩:=r;#z.elim
    | brk=>&⟨_,_,_,z⟩:=r;#z.elim
    | cont=>&⟨_,_,_,z⟩:=r;#z.elim
    | ret u=>
     &⟨v,σ',H',I7,rv,s',rt⟩:=r
     &⟨m,hn,_⟩:=I7.loc
     &wpAny_nameGoes (show X.env.kindOf n=some .local from hloc) hn (by rw [I.ok.kind];rfl) fun h8 m8 hn8 hs8=> ?_
     #⟨v,_,H',Inv.forget (inv_unS I.ok I7) hcl hn8 hs8,rv,hq' v H' (fun b o y nn=>s' b o (sm b o y nn)) rt⟩
end
section
variable {X:Cx}{e C:Addr}{oe:Obj}{bm:List Value}
&boot_V:bootBuiltins "ValueError" =some (.type "ValueError"):=by decide+kernel
&pe_isV {en:Str}{p p1 p2 pos:Pos}(hN:X.N[0]? =some en)(hv:qH X.env.scope en)(hp:(e,oe)∈X.pn)(hc:oe.cls= .ref C)(OC:OX X.K C bm)
  (hm:X.mg "isinstance" =none) (hmD:X.mg "ValueError" =none) (hg:Gl X "isinstance":=by rfl) (hgD:Gl X "ValueError":=by rfl) (hde:(en == ("__debug__" : Str))=false:=by decide) (hce:(en == ("__classdict__" : Str))=false:=by decide)
  (he:starEach [.Name en p1,.Name "ValueError" p2] X.env=(false,eval (.Name en p1) X.env)::starEach [.Name "ValueError" p2] X.env:=by rfl) (hpl:(backTo pos (starEach [.Name "ValueError" p2] X.env)).any (·.1)=false:=by rfl)
  (hs:starEach [.Name "ValueError" p2] X.env=(false,eval (.Name "ValueError" p2) X.env)::starEach [] X.env:=by rfl) :
  PE X (.Call (.Name "isinstance" p) [.Name en p1,.Name "ValueError" p2] [] pos) (tIs e true):=by
 intro pins s σ H Q I ⟨hσ,q⟩
 &wpAny_Call_Name_kw (ge I hg hm fD ?_ (by decide) (by decide))
 have hA:PA X [.Name en p1,.Name "ValueError" p2] (gp (l5 0) (gp (tC (.ty "ValueError")) qS)):=bi (gY hN hv hde hce) (bi (uq (v:=.ty "ValueError") hgD hmD boot_V rfl) df hs) he
 &PyProof.Rows.callWith_builtin1 (bU (hA pos pins s σ H (fun vs H'=>vs= [.ref e,.ty "ValueError"]/\H'=H) I ⟨.ref e,hσ,rfl,rfl⟩) fun us s1 ⟨vs,H1,I1,r1,e1,e2⟩=> ?_) he hpl
 subst e1
 &⟨u,w',rfl,ru,rw'⟩:=tZ r1
 cases ru
 cases rw'
 subst e2
 #ym hp hc OC I1 q
end
def wO:Value->Bool
 | .str _ _=>true
 | _=>false
&ns_of {K:PySem.W.Frag}{N:Addr}{ob:Value}{oe:Option Addr}{es:Array DictEntry}{n:Nat}{oz:Array (Option Value)}(r:K.lookup N=some ⟨ob,oe,.dict es n,oz⟩)(s:(es.toList.all fun e=>wO e.key)=true)
  (u0:PySem.W.nsIn K N "__init__" =some none) (u1:PySem.W.nsIn K N "__getattribute__" =some none) (u2:PySem.W.nsIn K N "__getattr__" =some none) (u3:PySem.W.nsIn K N "__class__" =some none) :
  ∀h:Heap,K.In h->∃ mN,h.Ns N mN/\∀ n∈calmNames,mN n=none:=fun h k=>by
 &⟨nsFind es,⟨_,es,n,k _ _ r,rfl,fun e he=> ?_,fun _=>rfl⟩,fun x hx=> ?_⟩
 ·have:=List.all_eq_true.mp s e (by simpa using he)
  cases q:e.key <;> rw [q]at this <;> first | #⟨_,_,rfl⟩ | cases this
 ·have key:∀ x,PySem.W.nsIn K N x=some none->nsFind es x=none:=fun x u=>by
   unfold PySem.W.nsIn at u
   rw [r]at u
   simp only at u
   split at u
   ·cases u
   ·rename_i he
    #,nsFind findBy
    rw [<-Array.find?_toList,he];rfl
  unfold calmNames at hx
  simp only [List.mem_cons,List.not_mem_nil,or_false]at hx
  rcases hx with rfl | rfl | rfl | rfl
  ·#key _ u0
  ·#key _ u1
  ·#key _ u2
  ·#key _ u3
section
variable {K:PySem.W.Frag}{nm q:Str}{C N:Addr}{bs:List Value}{hdct:Bool}{sn:List Str}{sub:List Value}{ab:Bool}{col:Option Bool}{dd:Option Addr}{k0 k1 k2 k3 k5:Option Value}
variable {nm' q':Str}{D N':Addr}{bs':List Value}{hdct':Bool}{sn':List Str}{sub':List Value}{ab':Bool}{col':Option Bool}{dd':Option Addr}{k0' k1' k2' k3' k5':Option Value}
&ox_base (w:K.lookup C=some (excClassObj nm q C N bs lH hdct sn sub ab col dd k0 k1 k2 k3 k5 "ValueError.__new__"))(ns:∀ h:Heap,K.In h->∃ mN,h.Ns N mN/\∀ n∈calmNames,mN n=none):OX K C lH:=⟨fun h k=>by
 &⟨mN,h1,h2⟩:=ns h k
 #⟨nm,q,N,bs,hdct,sn,sub,ab,col,dd,k0,k1,k2,k3,k5,mN,k _ _ w,h1,h2,.base⟩⟩
&xG (w:K.lookup C=some (excClassObj nm q C N bs (.ref D::lH) hdct sn sub ab col dd k0 k1 k2 k3 k5 "ValueError.__new__"))(ns:∀ h:Heap,K.In h->∃ mN,h.Ns N mN/\∀ n∈calmNames,mN n=none)
  (wD:K.lookup D=some (excClassObj nm' q' D N' bs' lH hdct' sn' sub' ab' col' dd' k0' k1' k2' k3' k5' "ValueError.__new__")) (nsD:∀ h:Heap,K.In h->∃ mN,h.Ns N' mN/\∀ n∈calmNames,mN n=none):OX K C (.ref D::lH):=⟨fun h k=>by
 &⟨mN,h1,h2⟩:=ns h k
 &⟨mD,d1,d2⟩:=nsD h k
 #⟨nm,q,N,bs,hdct,sn,sub,ab,col,dd,k0,k1,k2,k3,k5,mN,k _ _ w,h1,h2,.own (k _ _ wD) d1 d2 .base⟩⟩
end
&room3 {k:Nat}{A:Around}(h:Room k A):A.depth+3<recursionLimit:=by have:=h.dp;omega
end Tr
namespace L2
open PySem PySem.Spec PyProof.Rows
section
variable {κ:Type}[DecidableEq κ]
def io (kvs:List (κ×V))(k:κ):Option V:=(kvs.find? fun kv=>decide (kv.1=k)).map (·.2)
def db (kvs:List (κ×V))(k:κ)(v:V):List (κ×V):=
 if (kvs.any fun kv=>decide (kv.1=k))=true then kvs.map (fun kv=>if kv.1=k then(kv.1,v)else kv)else kvs++ [(k,v)]
&ww {k:κ}:io ([]:List (κ×V)) k=none:=rfl
&fQ {p:κ×V}{r:List (κ×V)}{k:κ}(e:p.1=k):io (p::r) k=some p.2:=by simp [io,List.find?_cons,e]
&fR {p:κ×V}{r:List (κ×V)}{k:κ}(e:¬ p.1=k):io (p::r) k=io r k:=by simp [io,List.find?_cons,e]
&qM (k:κ):∀ kvs:List (κ×V),(kvs.any fun kv=>decide (kv.1=k))=(io kvs k).isSome
 | [] =>rfl
 | p::r=>by
  rw [List.any_cons]
  by_cases e:p.1=k
  ·simp only [fQ e,decide_eq_true e,Bool.true_or,Option.isSome_some]
  ·rw [fR e,decide_eq_false e,Bool.false_or];#qM k r
&gu (kvs:List (κ×V))(k:κ)(v:V):(db kvs k v).length<=kvs.length+1:=by
 #,db
 split
 ·rw [List.length_map];omega
 ·rw [List.length_append,List.length_cons,List.length_nil];omega
&RelO.isSome_eq {o:Option V}{u:Option Value}(r:RelO o u):o.isSome=u.isSome:=by
 cases o with
 | none=>cases u with
  | none=>rfl
  | some _=>#(show False from r).elim
 | some _=>cases u with
  | none=>#(show False from r).elim
  | some _=>rfl
&RelO.getD {o:Option V}{u:Option Value}{d:V}{d':Value}(r:RelO o u)(rd:RelV d d'):RelV (o.getD d) (u.getD d'):=by
 cases o with
 | none=>cases u with
  | none=>#rd
  | some _=>#(show False from r).elim
 | some _=>cases u with
  | none=>#(show False from r).elim
  | some _=>#r
&KV.val {kvs:List (κ×V)}{vs:List (κ×Value)}(r:KV kvs vs)(k:κ):RelO (io kvs k) (valueAt vs k):=by
 unfold KV at r
 induction r with
 | nil=>#True.intro
 | @cons p q ps qs h t ih=>
  &⟨h1,h2⟩:=h
  by_cases e:p.1=k
  ·have e':q.1=k:=h1.symm.trans e
   have b:valueAt (q::qs) k=some q.2:=by simp [valueAt,List.find?_cons,e']
   rw [fQ e,b];#h2
  ·have e':¬ q.1=k:=fun z=>e (h1.trans z)
   have b:valueAt (q::qs) k=valueAt qs k:=by simp [valueAt,List.find?_cons,e']
   rw [fR e,b];#ih
&KV.any {kvs:List (κ×V)}{vs:List (κ×Value)}(r:KV kvs vs)(k:κ):(kvs.any fun kv=>decide (kv.1=k))=vs.any fun kv=>decide (kv.1=k):=by
 unfold KV at r
 induction r with
 | nil=>rfl
 | cons h t ih=>rw [List.any_cons,List.any_cons,ih,h.1]
&KV.repl {kvs:List (κ×V)}{vs:List (κ×Value)}(r:KV kvs vs)(k:κ){y:V}{u:Value}(ry:RelV y u) :
  KV (kvs.map fun kv=>if kv.1=k then(kv.1,y)else kv) (vs.map fun kv=>if kv.1=k then(kv.1,u)else kv):=by
 unfold KV at r ⊢
 induction r with
 | nil=>#.nil
 | @cons p q ps qs h t ih=>
  rw [List.map_cons,List.map_cons]
  &.cons ?_ ih
  &⟨h1,h2⟩:=h
  by_cases e:p.1=k
  ·rw [if_pos e,if_pos (h1.symm.trans e)];#⟨h1,ry⟩
  ·rw [if_neg e,if_neg (fun z=>e (h1.trans z))];#⟨h1,h2⟩
&KV.put {kvs:List (κ×V)}{vs:List (κ×Value)}(r:KV kvs vs)(k:κ){y:V}{u:Value}(ry:RelV y u):KV (db kvs k y) (stored vs k u):=by
 #,db stored
 rw [r.any k]
 by_cases e:(vs.any fun kv=>decide (kv.1=k))=true
 ·rw [if_pos e,if_pos e];#r.repl k ry
 ·rw [if_neg e,if_neg e];#Paired.snoc r ⟨rfl,ry⟩
&KV.length {kvs:List (κ×V)}{vs:List (κ×Value)}(r:KV kvs vs):kvs.length=vs.length:=Paired.length r
end
&uO {P:Program}{w:World}{k:Key}{u:Value}(r:RelV (kV k) u):(cI P w).is k u=true:=by
 cases k with
 | inl i=>&⟨t,e⟩:=(show ∃t,u=Value.int i t from r);subst e;#rO P w i t
 | inr x=>&⟨t,e⟩:=(show ∃t,u=Value.str x t from r);subst e;#rN P w x t
&oP {P:Program}{w:World}:∀ {ks:List Key} {us:List Value},Vals (ks.map kV) us->ItemsAre (cI P w) ks us
 | [],_,r=>by rw [List.map_nil]at r;cases r;#.nil
 | k::ks,_,r=>by
  rw [List.map_cons]at r
  cases r with
  | cons h t=>#.cons (uO h) (oP t)
abbrev KT (H:Hp):List (List Key×V)->List (List Key×Addr×Value)->Prop:=Paired fun p q=>p.1=q.1/\H q.2.1=some (.tup (p.1.map kV))/\RelV p.2 q.2.2
&KT.val {H:Hp}{kvs:List (List Key×V)}{xs:List (List Key×Addr×Value)}(r:KT H kvs xs)(k:List Key):RelO (io kvs k) ((atKey xs k).map (·.2)):=by
 induction r with
 | nil=>#True.intro
 | @cons p q ps qs h t ih=>
  &⟨h1,_,h2⟩:=h
  by_cases e:p.1=k
  ·have e':q.1=k:=h1.symm.trans e
   have b:atKey (q::qs) k=some q.2:=by simp [atKey,List.find?_cons,e']
   rw [fQ e,b];#h2
  ·have e':¬ q.1=k:=fun z=>e (h1.trans z)
   have b:atKey (q::qs) k=atKey qs k:=by simp [atKey,List.find?_cons,e']
   rw [fR e,b];#ih
&KT.repl {H:Hp}{kvs:List (List Key×V)}{xs:List (List Key×Addr×Value)}(r:KT H kvs xs)(k:List Key){y:V}{u:Value}(ry:RelV y u) :
  KT H (kvs.map fun kv=>if kv.1=k then(kv.1,y)else kv) (xs.map (putAt k u)):=by
 induction r with
 | nil=>#.nil
 | @cons p q ps qs h t ih=>
  rw [List.map_cons,List.map_cons]
  &.cons ?_ ih
  &⟨h1,h2,h3⟩:=h
  #,putAt
  by_cases e:p.1=k
  ·rw [if_pos e,if_pos (h1.symm.trans e)];#⟨h1,h2,ry⟩
  ·rw [if_neg e,if_neg (fun z=>e (h1.trans z))];#⟨h1,h2,h3⟩
&KT.put {H:Hp}{kvs:List (List Key×V)}{xs:List (List Key×Addr×Value)}(r:KT H kvs xs)(k:List Key){b:Addr}{y:V}{u:Value}(hb:H b=some (.tup (k.map kV)))(ry:RelV y u) :
  KT H (db kvs k y) (storedH xs k b u):=by
 have e:(kvs.any fun kv=>decide (kv.1=k))=(atKey xs k).isSome:=by
  rw [qM,(r.val k).isSome_eq,Option.isSome_map]
 #,db storedH
 rw [e]
 by_cases q:(atKey xs k).isSome=true
 ·rw [if_pos q,if_pos q];#r.repl k ry
 ·rw [if_neg q,if_neg q];#Paired.snoc r ⟨rfl,hb,ry⟩
&KT.keeps {H H':Hp}{kvs:List (List Key×V)}{xs:List (List Key×Addr×Value)}(r:KT H kvs xs)(ht:∀ b ys,H b=some (.tup ys)->H' b=some (.tup ys)):KT H' kvs xs:=
 Paired.mapP r fun _ _ z=>⟨z.1,ht _ _ z.2.1,z.2.2⟩
section
variable {P:Program}{w:World}{H:Hp}{h:Heap}{a:Addr}
&uf {u:HO}(ok:HOk P w H h)(e:Rd H a u):ObjOk P w H h a u:=e.ok ok
&sg {kvs:List (Key×V)}(ok:HOk P w H h)(e:Rd H a (.dK kvs)):kvs.length<=sizeLine/\(a == sysModules)=false/\∃ vs,KV kvs vs/\h.DictOf (cI P w) a vs:=
 show ObjOk P w H h a (.dK kvs)from uf ok e
&dk_of {kvs:List (Key×V)}(ok:HOk P w H h)(e:H a=some (.dK kvs)):kvs.length<=sizeLine/\(a == sysModules)=false/\∃ vs,KV kvs vs/\h.DictOf (cI P w) a vs:=sg ok (.inl e)
&mX {ks:List Key}(ok:HOk P w H h)(e:H a=some (.tup (ks.map kV))):(tupleKind (cI P w)).is h ks a:=by
 &⟨_,its,r,o,h1,h2,n,h3⟩:=(show ObjOk P w H h a (.tup (ks.map kV))from ok a _ e)
 #⟨o,its.toArray,n,h1,h2,h3,by simpa using oP r⟩
&se {kvs:List (List Key×V)}(ok:HOk P w H h)(e:Rd H a (.dT kvs)):kvs.length<=sizeLine/\(a == sysModules)=false ∧
  ∃xs,KT H kvs xs/\h.DictOfH (tupleKind (cI P w)) a xs:=by
 &⟨z,y,xs,r,o,es,ep,h1,h2,h3,h4,h5⟩:=(show ObjOk P w H h a (.dT kvs)from uf ok e)
 &⟨z,y,xs,r,o,es,ep,h1,h2,h3,h4,fun x hx=> ?_,h5⟩
 have all:∀ {l:List (List Key×V)} {m:List (List Key×Addr×Value)},KT H l m->∀ x∈m,(tupleKind (cI P w)).is h x.1 x.2.1:=by
  intro l m q
  induction q with
  | nil=>intro x hx;#nomatch hx
  | @cons p q ps qs hq t ih=>
   intro x hx
   rcases List.mem_cons.mp hx with e | hx
   ·subst e
    #mX ok (by rw [<-hq.1];#hq.2.1)
   ·#ih x hx
 #all r x hx
&yO {kvs:List (List Key×V)}(ok:HOk P w H h)(e:H a=some (.dT kvs)):kvs.length<=sizeLine/\(a == sysModules)=false ∧
  ∃xs,KT H kvs xs/\h.DictOfH (tupleKind (cI P w)) a xs:=se ok (.inl e)
end
def DGet (H:Hp)(a:Addr)(y:V)(r:Option V):Prop:=
 (∃kvs k,Rd H a (.dK kvs)/\y=kV k/\r=io kvs k)\/∃ kvs k b,Rd H a (.dT kvs)/\y= .ref b/\H b=some (.tup (k.map kV))/\r=io kvs k
def DPut (H:Hp)(a:Addr)(y v:V)(H':Hp):Prop:=
 (∃kvs k,H a=some (.dK kvs)/\y=kV k/\kvs.length<sizeLine/\H'=upd H a (.dK (db kvs k v))) ∨
 ∃kvs k b,H a=some (.dT kvs)/\y= .ref b/\H b=some (.tup (k.map kV))/\kvs.length<sizeLine/\H'=upd H a (.dT (db kvs k v))
&DGet.t {H:Hp}{a b:Addr}{kvs:List (List Key×V)}{k:List Key}(e:H a=some (.dT kvs))(eb:H b=some (.tup (k.map kV))):DGet H a (.ref b) (io kvs k):=.inr ⟨kvs,k,b,.inl e,rfl,eb,rfl⟩
&DPut.t {H:Hp}{a b:Addr}{kvs:List (List Key×V)}{k:List Key}{v:V}(e:H a=some (.dT kvs))(eb:H b=some (.tup (k.map kV)))(hl:kvs.length<sizeLine) :
  DPut H a (.ref b) v (upd H a (.dT (db kvs k v))):=.inr ⟨kvs,k,b,e,rfl,eb,hl,rfl⟩
section
variable {X:Cx}{pins:List (Addr×Obj)}{σ:St}{H:Hp}{s:Shared}{a:Addr}{y v:V}{u r:Value}{o:Option V}{A:Around}{E:Value->Shared->Prop}
&Inv.big (I:Inv X pins σ H s):sysModules<s.heap.objs.size:=by
 have h:mainGlobals<s.heap.objs.size:=(I.mod.glob.keeps I.bk).lt
 #Nat.lt_trans (by decide) h
&v8 {Q:Value->Shared->Prop}(hu:A.units+1<cLine)(I:Inv X pins σ H s)(g:DGet H a y (some v))(ry:RelV y u)(h:∀ w' s',Inv X pins σ H s'->RelV v w'->Q w' s') :
  wpAny (model X.prog X.w) A (getItem (.ref a) u) Q E s:=by
 rcases g with⟨kvs,k,e,ey,l⟩ | ⟨kvs,k,b,e,ey,eb,l⟩
 ·subst ey
  &⟨z,hd,vs,rel,dd⟩:=sg I.hok e
  &⟨w',hw,rw'⟩:=RelO.some_of (v:=v) (o:=valueAt vs k) (by rw [l];#rel.val k)
  #wpAny_getItem_of (uO ry) dd.mapOf hw (h w' _ (I.tok _) rw')
 ·subst ey
  cases (show u=Value.ref b from ry)
  &⟨z,hd,xs,rel,dd⟩:=se I.hok e
  &⟨w',hw,rw'⟩:=RelO.some_of (v:=v) (o:=(atKey xs k).map (·.2)) (by rw [l];#rel.val k)
  &⟨p,hp,hp2⟩:=Option.map_eq_some_iff.mp hw
  &wpAny_getItem_heap (tupleKind_room_in1 hu) (mX I.hok eb) dd hp ?_
  rw [hp2]
  #h w' _ (I.tok _) rw'
&qv {h':Heap}{t':Nat}{ob:HO}(I:Inv X pins σ H s)(mu:Mut (H a))(hs:Heap.SameBut a s.heap h')(he:∃ q,h'.get? a=some q)(new:ObjOk X.prog X.w (upd H a ob) h' a ob) :
  Inv X pins σ (upd H a ob) { s with heap:=h',toks:=t' }:=
 I.write (x:=a) (e:=a) mu (.inl rfl) (fun b q hb z=>(hs.2 b hb).trans z) he new
&dk_new {P:Program}{w:World}{H':Hp}{h':Heap}{kvs:List (Key×V)}{vs:List (Key×Value)}(z:kvs.length<=sizeLine)(hd:(a == sysModules)=false)(rel:KV kvs vs)(dd:h'.DictOf (cI P w) a vs) :
  ObjOk P w H' h' a (.dK kvs):=⟨z,hd,vs,rel,dd⟩
&v7 {H':Hp}{Q:Unit->Shared->Prop}(hu:A.units+1<cLine)(I:Inv X pins σ H s)(g:DPut H a y v H')(ry:RelV y u)(rv:RelV v r)(h:∀ s',Inv X pins σ H' s'->Q () s') :
  wpAny (model X.prog X.w) A (setItem (.ref a) u r) Q E s:=by
 rcases g with⟨kvs,k,e,ey,l,eH⟩ | ⟨kvs,k,b,e,ey,eb,l,eH⟩
 ·subst ey eH
  &⟨z,hd,vs,rel,dd⟩:=dk_of I.hok e
  have hz:vs.length<=sizeLine:=by rw [<-rel.length];#z
  have hl:(db kvs k v).length<=sizeLine:=by have:=gu kvs k v;omega
  &wpAny_setItem_pairs (hsz:=hz) (uO ry) dd fun h' dd' hs=>h _ ?_
  have he:∃ q,h'.get? a=some q:=let ⟨q,_,_,hq,_⟩:=dd';⟨q,hq⟩
  #qv I (by rw [e];#True.intro) hs he (dk_new hl hd (rel.put k rv) dd')
 ·subst ey eH
  cases (show u=Value.ref b from ry)
  &⟨z,hd,xs,rel,dd⟩:=yO I.hok e
  have hz:xs.length<=sizeLine:=by rw [<-Paired.length rel];#z
  have hl:(db kvs k v).length<=sizeLine:=by have:=gu kvs k v;omega
  &wpAny_setItem_heap (hsz:=hz) (tupleKind_room_in1 hu) (mX I.hok eb) dd fun h' dd' hs=>h _ ?_
  &⟨q,es,ep,hq,h2,h3,h4,_,h5⟩:=dd'
  &qv I (by rw [e];#True.intro) hs ⟨q,hq⟩ ⟨hl,hd,_,(rel.put k eb rv).keeps fun c ys ec=> ?_,q,es,ep,hq,h2,h3,h4,h5⟩
  rw [aF (kn ec e (fun z=>nomatch z))]
  #ec
end
def wf (i:Expr):Prop:=∀ ov iv,subscripted i false ov iv=operate [ov,iv] (getItem ov iv)
&subD_of {prog:Program}{w:World}{A:Around}{E:Value->Shared->Prop}{s:Shared}{env:Env}{value slice:Expr}{pos:Pos}{T id:String}{Q:Value->Shared->Prop}
  (hl:typeLookup (.type T) "__getitem__" =pure (some (.builtin id))) (hs:wf slice)
  (h:wpAny (model prog w) A (eval value env) (fun o s₁=>wpAny (model prog w) A (eval slice env) (fun i s₂=>s₂.TypeIs o T/\wpAny (model prog w) A (getItem o i) Q E s₂) E s₁) E s) :
  wpAny (model prog w) A (eval (.Subscript value slice pos) env) Q E s:=by
 &Subscript_ (wpAny_mono h (fun o s₁ h₁=>wpAny_mono h₁ (fun i s₂ h₂=> ?_) fun _ _ x=>x) fun _ _ x=>x)
 &⟨hT,h₂⟩:=h₂
 #,subscriptTail
 &wpAny_bind ?_
 rw [getitemInPython_of_ne hT.not_modules]
 &wpAny_bind (wpAny_specialOf hT hl ?_)
 have fin:wpAny (model prog w) A (subscripted slice false o i) (fun r s₃=>wpAny (model prog w) A (letTemporaryGo value o r >>= fun _=>pure r) Q E s₃) E s₂:=by
  rw [hs o i]
  #wpAny_operating (wpAny_mono h₂ (fun r s₃ h₃=>wpAny_bind (wpAny_letTemporaryGo (wpAny_pure h₃))) fun _ _ x=>x)
 first
  | #wpAny_pure (wpAny_bind fin)
  | #wpAny_bind (wpAny_pure (wpAny_bind fin))
  | #wpAny_bind fin
&sh {X:Cx}{pins:List (Addr×Obj)}{σ:St}{H:Hp}{s:Shared}{a:Addr}{y:V}{o:Option V}(I:Inv X pins σ H s)(g:DGet H a y o):s.TypeIs (.ref a) "dict":=by
 rcases g with⟨kvs,k,e,_,_⟩ | ⟨kvs,k,b,e,_,_,_⟩
 ·&⟨_,_,vs,_,dd⟩:=sg I.hok e
  #dd.typeIs
 ·&⟨_,_,xs,_,dd⟩:=se I.hok e
  #dd.typeIs
def tDGet (td ty:TE):TE:=fun σ H Q=>td σ H fun x H1=>ty σ H1 fun y H2=> ∃a v,x= .ref a/\DGet H2 a y (some v)/\Q v H2
def sDPut (td ty tv:TE):TS:=fun D σ H=>tv σ H fun v H1=>td σ H1 fun x H2=>ty σ H2 fun y H3=> ∃a H4,x= .ref a/\DPut H3 a y v H4/\D.nx σ H4
section
variable {X:Cx}{o i e value:Expr}{pos pos' tpos:Pos}{td ty tv:TE}
&ul (hu:X.A.units+1<cLine)(ho:PE X o td)(hi:PE X i ty)(hs:wf i):PE X (.Subscript o i pos) (tDGet td ty):=by
 intro pins s σ H Q I h
 &subD_of PySem.F.slot_dict_getitem.lookup hs (bU (ho pins s σ H _ I h) fun u s1 ⟨x,H1,I1,rx,q1⟩=>bU (hi pins s1 σ H1 _ I1 q1) fun iv s2 hh_=> ?_)
 &⟨y,H2,I2,ry,a,v,ex,g,q2⟩:=hh_
 subst ex
 obtain rfl:u=Value.ref a:=rx
 #⟨sh I2 g,v8 hu I2 g ry fun w' s3 I3 rw'=>⟨v,H2,I3,rw',q2⟩⟩
&ui (hu:X.A.units+1<cLine)(ho:PE X o td)(hi:PE X i ty)(hv:PE X value tv)(hs:swapsWith value (some (.Subscript o i pos')) pos.line X.env=pure false) :
  PS X (.Assign [.Subscript o i pos'] value pos) (sDPut td ty tv):=by
 intro pins s σ H D I h
 &wpAny_Assign_Subscript (bU (hv pins s σ H _ I h) fun r s1 ⟨v,H1,I1,rv,q1⟩=>bU (ho pins s1 σ H1 _ I1 q1) fun u s2 ⟨x,H2,I2,rx,q2⟩=>bU (hi pins s2 σ H2 _ I2 q2) fun iv s3 ⟨y,H3,I3,ry,a,H4,ex,g,q3⟩=> ?_) hs
 subst ex
 obtain rfl:u=Value.ref a:=rx
 #v7 hu I3 g ry rv fun s4 I4=>⟨σ,H4,I4,q3⟩
end
&yP {P:Program}{w:World}{H:Hp}(h:Heap)(hb:sysModules<h.objs.size):ObjOk P w H (h.push { cls:=.type "dict",data:=.dict #[] }) h.objs.size (.dT []):=
 ⟨Nat.zero_le _,beq_eq_false_iff_ne.mpr (Ne.symm (Nat.ne_of_lt hb)),[],.nil,_,#[],0,Heap.get?_push_size _ rfl,⟨rfl,rfl,rfl⟩,rfl,rfl,List.nodup_nil⟩
structure M1 (X:Cx)(o:Expr)(m:Str)(apos:Pos)(e:Expr)(cpos:Pos):Prop where
 base:attributeBase o m X.env (eval o X.env)=eval o X.env
 few:((backTo cpos (starEach [e] X.env)).all (fun x=> !x.1)&&(backToKw cpos (keywordEach [] X.env)).all (fun x=>x.1.isSome)
  &&decide (([e]:List Expr).length+([]:List Keyword).length+(if ([]:List Keyword).isEmpty then 0 else 1)<30))=true
 line:(apos.endLine == cpos.line)=true
 trees:backTo cpos (starEach [e] X.env)= [(false,eval e X.env)]
structure M2 (X:Cx)(o:Expr)(m:Str)(apos:Pos)(e f:Expr)(cpos:Pos):Prop where
 base:attributeBase o m X.env (eval o X.env)=eval o X.env
 few:((backTo cpos (starEach [e,f] X.env)).all (fun x=> !x.1)&&(backToKw cpos (keywordEach [] X.env)).all (fun x=>x.1.isSome)
  &&decide (([e,f]:List Expr).length+([]:List Keyword).length+(if ([]:List Keyword).isEmpty then 0 else 1)<30))=true
 line:(apos.endLine == cpos.line)=true
 trees:backTo cpos (starEach [e,f] X.env)= [(false,eval e X.env),(false,eval f X.env)]
def IsD (H:Hp)(a:Addr):Prop:=(∃kvs,Rd H a (.dK kvs))\/∃ kvs,Rd H a (.dT kvs)
&isD_at {X:Cx}{pins:List (Addr×Obj)}{σ:St}{H:Hp}{s:Shared}{a:Addr}(I:Inv X pins σ H s)(d:IsD H a) :
  s.TypeIs (.ref a) "dict"/\(∀b,Value.ref a= .ref b->∃ ob,s.heap.get? b=some ob/\ob.dict=none)/\(a == sysModules)=false:=by
 rcases d with⟨kvs,e⟩ | ⟨kvs,e⟩
 ·&⟨_,hd,vs,_,dd⟩:=sg I.hok e
  &⟨dd.typeIs,fun b q=> ?_,hd⟩
  cases q
  &⟨ob,_,_,h1,h2,_⟩:=dd
  #⟨ob,h1,h2.2.1⟩
 ·&⟨_,hd,xs,_,dd⟩:=se I.hok e
  &⟨dd.typeIs,fun b q=> ?_,hd⟩
  cases q
  &⟨ob,_,_,h1,h2,_⟩:=dd
  #⟨ob,h1,h2.2.1⟩
section
variable {X:Cx}{pins:List (Addr×Obj)}{σ:St}{H:Hp}{s:Shared}{a:Addr}{y d:V}{u r:Value}{o:Option V}{A:Around}{E:Value->Shared->Prop}
&d_get1 {Q:Value->Shared->Prop}(hu:A.units+1<cLine)(I:Inv X pins σ H s)(g:DGet H a y o)(ry:RelV y u)(h:∀ w' s',Inv X pins σ H s'->RelV (o.getD .non) w'->Q w' s') :
  wpAny (model X.prog X.w) A (call (.builtin "dict.get") [.ref a,u]) Q E s:=by
 rcases g with⟨kvs,k,e,ey,l⟩ | ⟨kvs,k,b,e,ey,eb,l⟩
 ·subst ey
  &⟨z,hd,vs,rel,dd⟩:=sg I.hok e
  &call_meetsIn PySem.F.slot_dict_get dd.typeIs PySem.F.entry_dict_get (PySem.F.args_dict_get_2 _ _) (meets_dict_get (cI X.prog X.w) a (uO ry) hd) ⟨_,dd.mapOf,h _ _ (I.tok _) ?_⟩
  rw [l]
  #(rel.val k).getD rfl
 ·subst ey
  cases (show u=Value.ref b from ry)
  &⟨z,hd,xs,rel,dd⟩:=se I.hok e
  &call_meetsIn PySem.F.slot_dict_get dd.typeIs PySem.F.entry_dict_get (PySem.F.args_dict_get_2 _ _) (meetsH_dict_get (tupleKind (cI X.prog X.w)) a b hd) ⟨tupleKind_room_in1 hu,k,xs,mX I.hok eb,dd,h _ _ (I.tok _) ?_⟩
  rw [l]
  #(rel.val k).getD rfl
end
def tDGet1 (td ty:TE):TE:=fun σ H Q=>td σ H fun x H1=> ∃a,x= .ref a/\IsD H1 a/\ty σ H1 fun y H2=> ∃o,DGet H2 a y o/\Q (o.getD .non) H2
section
variable {X:Cx}{o e f:Expr}{apos cpos:Pos}{td ty tx:TE}
&xA (hu:X.A.units+1<cLine)(ho:PE X o td)(he:PE X e ty)(m:M1 X o "get" apos e cpos):PE X (.Call (.Attribute o "get" apos) [e] [] cpos) (tDGet1 td ty):=by
 intro pins s σ H Q I h
 &wpAny_Call_method m.base m.few m.line PySem.F.plainAttrs_dict PySem.F.slot_dict_get PySem.F.type_dict_get (bU (ho pins s σ H _ I h) fun u s1 hh_=> ?_)
 &⟨x,H1,I1,rx,a,ex,d,q1⟩:=hh_
 subst ex
 obtain rfl:u=Value.ref a:=rx
 &⟨t1,t2,_⟩:=isD_at I1 d
 &⟨t1,t2,?_⟩
 rw [m.trees]
 &Calls.callWith_builtin rfl (Calls.evalArgs_plain (Calls.spliced_cons (bU (he pins s1 σ H1 _ I1 q1) fun iv s2 ⟨y,H2,I2,ry,ov,g,q2⟩=>Calls.spliced_nil ?_)))
 #d_get1 hu I2 g ry fun w' s3 I3 rw'=>⟨_,H2,I3,rw',q2⟩
end
end L2
namespace Tr
open PySem PySem.Spec PyProof.Rows L2
&lO {k:Nat}{A:Around}(h:Room k A):A.units+1<cLine:=by have:=h.un;omega
&mY {K:PySem.W.Frag}{O:Ow}{H:Hp}:∀ {l:List T} {vs:List V} {k:List Key},mZ l=some k->Reps K O H l vs->vs=k.map kV
 | [],vs,k,h,r=>by cases Reps.nil_iff.mp r;cases h;rfl
 | t::l,vs,k,h,r=>by
  &⟨v,ws,rfl,p,q⟩:=Reps.cons_iff.mp r
  unfold mZ at h
  cases e1:keyEl t with
  | none=>rw [e1]at h;cases h
  | some a=>
   cases e2:mZ l with
   | none=>rw [e1,e2]at h;cases h
   | some b=>
    rw [e1,e2]at h
    cases h
    rw [mY e2 q,List.map_cons]
    congr 1
    cases t with
    | int i=>cases e1;#Rep.int_iff.mp p
    | str x=>cases e1;#Rep.str_iff.mp p
    | _=>cases e1
&hV {K:PySem.W.Frag}{O:Ow}{H:Hp}{y:T}{v:V}{k:List Key}(h:aV y=some k)(r:Rep K O H y v):∃ b,v= .ref b/\H b=some (.tup (k.map kV)):=by
 cases y with
 | tup l=>
  &⟨a,vs,e1,_,e3,e4⟩:=Rep.tup_iff.mp r
  rw [mY h e4]at e3
  #⟨a,e1,e3⟩
 | _=>cases h
&nB {K:PySem.W.Frag}{O:Ow}{H:Hp}{k:List Key}:∀ {ks ts:List T} {kvs:List (List Key×V)},ks.map aV=kvs.map (fun p=>some p.1)->Reps K O H ts (kvs.map (·.2))->match lF ks ts k with
  | some t=> ∃v,io kvs k=some v/\Rep K O H t v
  | none=>io kvs k=none
 | [],ts,kvs,h,r=>by
  cases kvs with
  | nil=>#,lF;#ww
  | cons _ _=>cases h
 | k'::ks,ts,kvs,h,r=>by
  cases kvs with
  | nil=>cases h
  | cons p kvs=>
   rw [List.map_cons,List.map_cons]at h
   injection h with h1 h2
   rw [List.map_cons]at r
   cases ts with
   | nil=>have:=Reps.nil_iff.mp r;cases this
   | cons t ts=>
    &⟨v,ws,e,q1,q2⟩:=Reps.cons_iff.mp r
    injection e with e1 e2
    subst e1 e2
    #,lF
    by_cases hk:aV k'=some k
    ·rw [if_pos hk]
     rw [h1]at hk
     injection hk with hk
     #⟨_,fQ hk,q1⟩
    ·rw [if_neg hk]
     have hk2:¬ p.1=k:=fun z=>hk (by rw [h1,z])
     rw [fR hk2]
     #nB h2 q2
&pJ {κ:Type}[DecidableEq κ]{k:κ}{p:κ×V}{r:List (κ×V)}{v:V}(h:¬ p.1=k):db (p::r) k v=p::db r k v:=by
 #,db
 rw [List.any_cons,decide_eq_false h,Bool.false_or]
 by_cases q:(r.any fun kv=>decide (kv.1=k))=true
 ·rw [if_pos q,if_pos q,List.map_cons,if_neg h]
 ·rw [if_neg q,if_neg q];rfl
&pK {κ:Type}[DecidableEq κ]{k:κ}{p:κ×V}{r:List (κ×V)}{v:V}(h:p.1=k)(hn:∀ q∈r,q.1≠k):db (p::r) k v=(p.1,v)::r:=by
 #,db
 rw [List.any_cons,decide_eq_true h,Bool.true_or,if_pos rfl,List.map_cons,if_pos h]
 congr 1
 conv=>rhs;rw [<-List.map_id r]
 #List.map_congr_left fun q hq=>if_neg (hn q hq)
&kz {K:PySem.W.Frag}{O:Ow}{H:Hp}{kT vT:T}{k:List Key}{v:V}(hk:aV kT=some k)(hv:Rep K O H vT v):∀ {ks ts:List T} {kvs:List (List Key×V)},ks.map aV=kvs.map (fun p=>some p.1)->Reps K O H ts (kvs.map (·.2))->(kvs.map (·.1)).Nodup →
  (gk kT vT ks ts).1.map aV=(db kvs k v).map (fun p=>some p.1)/\Reps K O H (gk kT vT ks ts).2 ((db kvs k v).map (·.2))
 | [],ts,kvs,h,r,_=>by
  cases kvs with
  | nil=>
   #,gk
   &⟨?_,Reps.cons_ hv Reps.nil_⟩
   simp [db,hk]
  | cons _ _=>cases h
 | k'::ks,ts,kvs,h,r,hn=>by
  cases kvs with
  | nil=>cases h
  | cons p kvs=>
   rw [List.map_cons,List.map_cons]at h
   injection h with h1 h2
   rw [List.map_cons]at r
   rw [List.map_cons]at hn
   &⟨n1,n2⟩:=List.nodup_cons.mp hn
   cases ts with
   | nil=>have:=Reps.nil_iff.mp r;cases this
   | cons t ts=>
    &⟨v',ws,e,q1,q2⟩:=Reps.cons_iff.mp r
    injection e with e1 e2
    subst e1 e2
    #,gk
    by_cases hz:aV k'=aV kT
    ·rw [if_pos hz]
     have hp:p.1=k:=by rw [hz,hk]at h1;injection h1 with h1;#h1.symm
     rw [pK hp fun q hq z=>n1 (by rw [hp,<-z];#List.mem_map_of_mem hq)]
     #⟨by rw [List.map_cons,List.map_cons,h1,h2],Reps.cons_ hv q2⟩
    ·rw [if_neg hz]
     have hp:¬ p.1=k:=fun z=>hz (by rw [h1,z,hk])
     &⟨a1,a2⟩:=kz hk hv h2 q2 n2
     rw [pJ hp]
     #⟨by rw [List.map_cons,List.map_cons,h1,a1],Reps.cons_ q1 a2⟩
&KT_keys {H:Hp}{kvs:List (List Key×V)}{xs:List (List Key×Addr×Value)}(rel:KT H kvs xs):kvs.map (·.1)=xs.map (·.1):=by
 induction rel with
 | nil=>rfl
 | cons h t ih=>rw [List.map_cons,List.map_cons,ih,h.1]
&sj {X:Cx}{pins:List (Addr×Obj)}{σ:L2.St}{H:Hp}{s:Shared}{a:Addr}{kvs:List (List Key×V)}(I:Inv X pins σ H s)(e:H a=some (.dT kvs)):(kvs.map (·.1)).Nodup/\kvs.length<=sizeLine:=by
 &⟨z,_,xs,rel,_,_,_,_,_,_,_,_,hn⟩:=yO I.hok e
 rw [KT_keys rel]
 #⟨hn,z⟩
section
variable {X:Cx}{a b:Expr}{fa fb:En->Rs T}{pos:Pos}
&q_dix (hu:X.A.units+1<cLine)(ha:b9 X a fa)(hb:b9 X b fb)(hs:wf b:=by intro _ _;rfl):b9 X (.Subscript a b pos) (o2 bD fa fb):=by
 &PE.imp (ul hu ha hb hs) fun σ H Q ⟨ρ,O,E,hq⟩=> ?_
 &⟨ρ1,O1,E1,h1⟩:=aU E hq
 &⟨ρ1,O1,E1,Post.mono h1 fun t H1 s1 q v r=> ?_⟩
 &⟨t',r',s',E',q'⟩:=q v r
 &⟨ρ2,O2,E2,h2⟩:=aU (f:=fb) E' q'
 &⟨ρ2,O2,E2,Post.mono h2 fun t2 H2 s2 q2 v2 r2=> ?_⟩
 &⟨t2',r2',s2',E2',q2'⟩:=q2 v2 r2
 have r'':=r'.same s2'
 unfold bD at q2'
 split at q2'
 ·rename_i ks vs k hk
  split at q2'
  ·rename_i x hx
   &⟨a,kvs,e1,e2,e3,e4,e5⟩:=Rep.dct_iff.mp r''
   &⟨b,f1,f2⟩:=hV hk r2'
   have g:=nB (k:=k) e4 e5
   rw [hx]at g
   &⟨w,g1,g2⟩:=g
   #⟨a,w,e1,by rw [f1,<-g1];#DGet.t e3 f2,q2' H2 (Same.refl H2) w g2⟩
  ·#q2'.elim
 ·#q2'.elim
end
end Tr
namespace Tr
open PySem PySem.Spec PyProof.Rows L2
open PySem.SeqAt
&xS {A:Around}{s:Shared}{x:T}{ux:Value}(rx:ReV s x ux)(hu:A.units+60<cLine){l:List T}{us:List Value}(hd:x.dep<=60\/deps l<=60)(r:ReVs s l us) :
  ∃e:Value->Bool,(∀y∈us,EqAt A s y ux (e y))/\us.map e=l.map fun t=>aZ t x:=by
 classical
 have ex:∀ y∈us,∃t∈l,ReV s t y:=fun y hy=>by
  &⟨i,hi,rfl⟩:=List.getElem_of_mem hy
  have hl:=r.length
  have e1:l[i]? =some l[i]:=by simp
  &⟨u,q1,q2⟩:=r.get e1
  have:us[i]? =some us[i]:=by simp
  rw [this]at q1;cases q1
  #⟨l[i],List.getElem_mem _,q2⟩
 let e:Value->Bool:=fun y=>decide (∃t∈l,ReV s t y/\aZ t x=true)
 have dep:∀ t∈l,t.dep<=60\/x.dep<=60:=fun t ht=>by
  rcases hd with h | h
  ·#.inr h
  ·&⟨i,hi,rfl⟩:=List.getElem_of_mem ht
   #.inl (Nat.le_trans (iZ (i:=i) (by simp)) h)
 have uniq:∀ y t t',ReV s t y->ReV s t' y->aZ t x=aZ t' x:=fun y t t' z z'=>by
  rw [<-kE t,<-kE t',ReV.nf z z']
 have agree:∀ y t,t∈l->ReV s t y->e y=aZ t x:=fun y t h z=>by
  show decide (∃t∈l,ReV s t y/\aZ t x=true)=aZ t x
  cases q:aZ t x with
  | true=>#decide_eq_true ⟨t,h,z,q⟩
  | false=>
   &decide_eq_false ?_
   rintro ⟨t',h',z',q'⟩
   rw [<-uniq y t t' z z',q]at q'
   cases q'
 &⟨e,fun y hy=> ?_,?_⟩
 ·&⟨t,h,z⟩:=ex y hy
  rw [agree y t h z]
  #(eq_T 60 A s t x y ux (dep t h) hu z rx).1
 ·have go:∀ (l':List T) (us':List Value),(∀t∈l',t∈l)->ReVs s l' us'->us'.map e=l'.map fun y=>aZ y x:=by
   intro l'
   induction l' with
   | nil=>intro us' _ r';rw [ReVs.nil_iff.mp r'];rfl
   | cons t l' ih=>
    intro us' sub r'
    &⟨u,ws,rfl,p,q⟩:=ReVs.cons_iff.mp r'
    rw [List.map_cons,List.map_cons,ih ws (fun t ht=>sub t (List.mem_cons_of_mem _ ht)) q,agree u t (sub t List.mem_cons_self) p]
  #go l us (fun _ h=>h) r
&nt {x:T}:∀ {l:List T} {n k:Nat},ju x l n=some k->n<=k/\(l.map fun t=>aZ t x)[k - n]? =some true/\∀ m,m<k - n->(l.map fun t=>aZ t x)[m]? =some false
 | [],n,k,h=>by cases h
 | t::l,n,k,h=>by
  unfold ju at h
  cases q:aZ t x with
  | true=>
   rw [q,if_pos rfl]at h
   cases h
   &⟨Nat.le_refl _,?_,fun m hm=>by omega⟩
   rw [Nat.sub_self,List.map_cons,q];rfl
  | false=>
   rw [q,if_neg (by decide)]at h
   &⟨h1,h2,h3⟩:=nt h
   have e:k - n=(k - (n+1))+1:=by omega
   &⟨by omega,?_,fun m hm=> ?_⟩
   ·rw [e,List.map_cons,List.getElem?_cons_succ];#h2
   ·cases m with
    | zero=>rw [List.map_cons,q];rfl
    | succ m=>rw [List.map_cons,List.getElem?_cons_succ];#h3 m (by omega)
section
variable {X:Cx}{a b:Expr}{fa fb:En->Rs T}{pos apos cpos:Pos}
&xg (hu:X.A.units+61<cLine)(ha:b9 X a fa)(hb:b9 X b fb)(hn:bx b=true:=by rfl)
  (hbase:attributeBase a "index" X.env (eval a X.env)=eval a X.env:=by rfl) (hline:(apos.endLine == cpos.line)=true:=by rfl):b9 X (.Call (.Attribute a "index" apos) [b] [] cpos) (oL gt fa fb):=by
 have hs:starEach [b] X.env=(false,eval b X.env)::starEach [] X.env:=bh hn
 intro pins s σ H Q I ⟨ρ,O,E,hq⟩
 &wpAny_Call_method_late hbase (by rw [hs];rfl) hline rfl (bU (ha pins s σ H _ I (aU E hq)) fun v s1 hh_=> ?_)
 &⟨x,H1,I1,r1,t,rt,s',E',q1⟩:=hh_
 cases t with
 | lst l=>
  &⟨c,vs,e1,e2,e3,e4⟩:=Rep.lst_iff.mp rt
  subst e1
  obtain rfl:v=Value.ref c:=r1
  &⟨h1,h2⟩:=wA I1 (show RelV (.ref c) (.ref c)from rfl) (.inl ⟨rfl,vs,SqL.of e3⟩)
  &⟨_,_,PySem.F.plainAttrs_list,PySem.F.slot_list_index,PySem.F.type_list_index,h1,h2,?_⟩
  rw [hs]
  &Calls.callWith_builtin rfl (Calls.evalArgs_plain (Calls.spliced_cons (bU (hb pins s1 σ H1 _ I1 (aU (f:=fb) E' q1)) fun u s2 ⟨y,H2,I2,r2,t2,rt2,s'',E'',q2⟩=>Calls.spliced_nil ?_)))
  unfold gt at q2
  split at q2
  ·rename_i l' heq
   cases heq
   split at q2
   ·rename_i hd3
    &⟨hd,hnx,hny⟩:=hd3
    split at q2
    ·rename_i k hk
     have rv:=Rep.val I2 (show(T.lst l).nd=true by #,T.nd;#hny) (rt.same s'') (show RelV (.ref c) (.ref c)from rfl)
     unfold ReV at rv
     &⟨c',us,ec,hl,rs⟩:=rv
     cases ec
     &⟨⟨cls,dd,data,sl⟩,ho,hc,n,hdd⟩:=id hl
     simp only at hc hdd
     subst hc hdd
     &⟨e,he,ha⟩:=xS (A:=X.A.in1) (Rep.val I2 hnx rt2 r2) (by show X.A.units+1+60<cLine;omega) hd rs
     &⟨_,k1,k2⟩:=nt hk
     rw [Nat.sub_zero]at k1 k2
     rw [<-ha]at k1 k2
     have hkl:k<us.length:=by have:=(List.getElem?_eq_some_iff.mp k1).1;rwa [List.length_map]at this
     have hz:us.length<=sizeLine:=by
      have z:=(I2.lstM (s'' _ _ e3)).1
      have h3:=rs.length
      have h4:=e4.length
      omega
     &call_meets F.slot_list_index ⟨_,ho,rfl⟩ F.entry_list_index (F.args_list_index_2 _ _) (list_indexAt c us.toArray n dd sl u e k (by simpa using hkl) (by rw [sizeLine_eq]at hz;omega) ?_ ?_) ⟨ho,fun y hy=>he y (by simpa using hy),?_⟩
     ·have:=(List.getElem?_eq_some_iff.mp k1).2
      rw [List.getElem_map]at this
      simpa using this
     ·intro m hm hmk
      have:=(List.getElem?_eq_some_iff.mp (k2 m hmk)).2
      rw [List.getElem_map]at this
      simpa using this
     ·#⟨.int _,H2,I2.tok _,⟨_,rfl⟩,q2 H2 (Same.refl H2) _ (Rep.int_ _)⟩
    ·#q2.elim
   ·#q2.elim
  ·rename_i hno
   #(hno l rfl).elim
 | _=>#q1.elim
&q_dget (hu:X.A.units+1<cLine)(ha:b9 X a fa)(hb:b9 X b fb)(hn:bx b=true:=by rfl)
  (hbase:attributeBase a "get" X.env (eval a X.env)=eval a X.env:=by rfl) (hline:(apos.endLine == cpos.line)=true:=by rfl):b9 X (.Call (.Attribute a "get" apos) [b] [] cpos) (oD im fa fb):=by
 have hs:starEach [b] X.env=(false,eval b X.env)::starEach [] X.env:=bh hn
 &PE.imp (xA hu ha hb ⟨hbase,by rw [hs];rfl,hline,by rw [hs];rfl⟩) fun σ H Q ⟨ρ,O,E,hq⟩=> ?_
 &⟨ρ1,O1,E1,h1⟩:=aU E hq
 &⟨ρ1,O1,E1,Post.mono h1 fun t H1 s1 q v r=> ?_⟩
 &⟨t',r',s',E',q'⟩:=q v r
 cases t' with
 | dct ks vs=>
  &⟨c,kvs,e1,e2,e3,e4,e5⟩:=Rep.dct_iff.mp r'
  &⟨c,e1,.inr ⟨kvs,.inl e3⟩,?_⟩
  &⟨ρ2,O2,E2,h2⟩:=aU (f:=fb) E' q'
  &⟨ρ2,O2,E2,Post.mono h2 fun t2 H2 s2 q2 v2 r2=> ?_⟩
  &⟨t2',r2',s2',E2',q2'⟩:=q2 v2 r2
  unfold im at q2'
  split at q2'
  ·rename_i ks' vs' k heq hk
   cases heq
   &⟨b,f1,f2⟩:=hV hk r2'
   have g:=nB (k:=k) e4 (e5.same s2')
   &⟨io kvs k,by rw [f1];#DGet.t (s2' _ _ e3) f2,?_⟩
   cases hx:lF ks vs k with
   | some z=>
    rw [hx]at g q2'
    &⟨w,g1,g2⟩:=g
    rw [g1]
    #q2' H2 (Same.refl H2) w g2
   | none=>
    rw [hx]at g q2'
    rw [g]
    #q2' H2 (Same.refl H2) .non Rep.non_
  ·#q2'.elim
 | _=>#q'.elim
end
end Tr
namespace Tr
open PySem PySem.Spec PyProof.Rows L2
section
variable {X:Cx}{a b c:Expr}{fa fb fc:En->Rs T}{pos p2 p3 p4:Pos}{x:Str}
&qs_put (i:Nat)(hu:X.A.units+1<cLine)(hb:b9 X b fb)(hc:b9 X c fc)(hN:X.N[i]? =some x:=by rfl)(hv:qH X.env.scope x:=by first | #Or.inl rfl | #Or.inr (Or.inl rfl) | #Or.inr (Or.inr rfl))
  (hd:(x == ("__debug__" : Str))=false:=by decide) (hcd:(x == ("__classdict__" : Str))=false:=by decide)
  (hs:swapsWith c (some (.Subscript (.Name x p2) b p3)) pos.line X.env=pure false:=by rfl):nT X (.Assign [.Subscript (.Name x p2) b p3] c pos) (vo i fb fc):=by
 intro pins s σ H D I ⟨ρ,B,M,E,h⟩
 &ui hu (gY hN hv hd hcd) hb hc hs pins s σ H D I ?_
 unfold vo at h
 split at h
 ·rename_i ks vs hl
  &⟨v0,e1,d,kvs,rfl,hM,e3,e4,e5⟩:=E.env.own i _ hl
  &⟨nd,nz⟩:=sj I e3
  &⟨ρ,OO B M,E.o,?_⟩
  cases q:fc ρ with
  | bad=>rw [q]at h;#h.elim
  | err c=>rw [q]at h;#PostF.xa h
  | ok vT=>
   rw [q,aD]at h
   intro H1 s1 v r
   &⟨.ref d,e1,ρ,OO B M,(E.same s1).o,?_⟩
   have h1:=h.later (SameO.of s1) (P1:=M.u) fun a z=> .inl z
   cases q2:fb ρ with
   | bad=>rw [q2]at h1;#h1.elim
   | err c=>rw [q2]at h1;#PostF.xa h1
   | ok kT=>
    rw [q2,aD]at h1
    intro H2 s2 y ry
    cases q3:aV kT with
    | none=>rw [q3]at h1;#h1.elim
    | some k=>
     rw [q3]at h1
     have h2:=h1.later (SameO.of s2) (P1:=M.u) fun a z=> .inl z
     have hlen:ks.length=kvs.length:=by have:=congrArg List.length e4;simpa using this
     by_cases hz:ks.length<1000
     ·simp only [if_pos hz]at h2
      &⟨kb,f1,f2⟩:=hV q3 ry
      have e3':=s2 _ _ (s1 _ _ e3)
      &⟨g1,g2⟩:=kz q3 (r.same s2) e4 ((e5.same s1).same s2) nd
      &⟨d,upd H2 d (.dT (db kvs k v)),rfl,by rw [f1];#DPut.t e3' f2 (by rw [sizeLine_eq];omega),?_⟩
      have sm:SameO (M i) H2 (upd H2 d (.dT (db kvs k v))):=fun c u e nb=>by rw [aF (fun z=>nb ((hM c).mpr z))];#e
      &⟨g3,g4⟩:=((E.same s1).same s2).put (o':=.dct (gk kT vT ks vs).1 (gk kT vT ks vs).2) hl e1 sm ⟨d,_,rfl,hM,aG,g1,g2.move (P:=M i) (fun a z=> .inl (.inr ⟨i,z⟩)) (fun a z=> .inl z) sm⟩
      #h2 σ _ M g4 g3 fun c z=> .inl z
     ·simp only [if_neg hz]at h2
      #h2.elim
 ·#h.elim
&qL {k:List Key}:∀ {kvs:List (List Key×V)} {as:List Addr} {v:V},kvs.map (·.2)=as.map V.ref->io kvs k=some v->∃ b∈as,v= .ref b
 | [],as,v,_,h=>by cases h
 | p::kvs,as,v,e,h=>by
  cases as with
  | nil=>cases e
  | cons b0 bs=>
   rw [List.map_cons,List.map_cons]at e
   injection e with e1 e2
   by_cases hk:p.1=k
   ·rw [fQ hk]at h
    cases h
    #⟨b0,List.mem_cons_self,e1⟩
   ·rw [fR hk]at h
    &⟨b,hb,e⟩:=qL e2 h
    #⟨b,List.mem_cons_of_mem _ hb,e⟩
&rk {K:PySem.W.Frag}{O:Ow}{H:Hp}{k:List Key}{r:List T×List T}:∀ {ks:List T} {rows:List (List T×List T)} {kvs:List (List Key×V)} {as:List Addr},ks.map aV=kvs.map (fun p=>some p.1)->kvs.map (·.2)=as.map V.ref->RowsR K O H rows as->n4 ks rows k=some r →
  ∃b kv,io kvs k=some (.ref b)/\b∈as/\H b=some (.dT kv)/\r.1.map aV=kv.map (fun p=>some p.1)/\Reps K O H r.2 (kv.map (·.2))
 | [],rows,kvs,as,h1,h2,h3,h=>by unfold n4 at h;cases h
 | k'::ks,rows,kvs,as,h1,h2,h3,h=>by
  cases rows with
  | nil=>unfold n4 at h;cases h
  | cons r0 rows=>
   cases kvs with
   | nil=>cases h1
   | cons p kvs=>
    rw [List.map_cons,List.map_cons]at h1
    injection h1 with h1 h1'
    &⟨b0,bs,kv0,rfl,e2,e3,e4,e5⟩:=h3
    rw [List.map_cons,List.map_cons]at h2
    injection h2 with h2 h2'
    unfold n4 at h
    by_cases hk:aV k'=some k
    ·rw [if_pos hk]at h
     cases h
     rw [h1]at hk
     injection hk with hk
     #⟨b0,kv0,by rw [fQ hk,h2],List.mem_cons_self,e2,e3,e4⟩
    ·rw [if_neg hk]at h
     have hk2:¬ p.1=k:=fun z=>hk (by rw [h1,z])
     &⟨b,kv,g1,g2,g3⟩:=rk h1' h2' e5 h
     #⟨b,kv,by rw [fR hk2];#g1,List.mem_cons_of_mem _ g2,g3⟩
&rg {K:PySem.W.Frag}{O:Ow}{H H':Hp}{k:List Key}{xr:List T×List T}{b:Addr}{kv':List (List Key×V)}(hO:O b)(hS:SameO (fun c=>c=b) H H')(hb:H' b=some (.dT kv'))(hx1:xr.1.map aV=kv'.map (fun p=>some p.1))(hx2:Reps K O H' xr.2 (kv'.map (·.2))) :
  ∀{ks:List T} {rows:List (List T×List T)} {kvs:List (List Key×V)} {as:List Addr},ks.map aV=kvs.map (fun p=>some p.1)->kvs.map (·.2)=as.map V.ref->RowsR K O H rows as->as.Nodup->io kvs k=some (.ref b)->RowsR K O H' (nZ k xr ks rows) as
 | [],rows,kvs,as,h1,h2,h3,hn,h=>by
  cases kvs with
  | nil=>cases h
  | cons _ _=>cases h1
 | k'::ks,rows,kvs,as,h1,h2,h3,hn,h=>by
  have inO:∀ a,a=b->O a\/Nw K H a:=fun a z=> .inl (z▸hO)
  cases kvs with
  | nil=>cases h1
  | cons p kvs=>
   rw [List.map_cons,List.map_cons]at h1
   injection h1 with h1 h1'
   cases rows with
   | nil=>unfold RowsR at h3;subst h3;cases h2
   | cons r0 rows=>
    &⟨b0,bs,kv0,rfl,e2,e3,e4,e5⟩:=h3
    rw [List.map_cons,List.map_cons]at h2
    injection h2 with h2 h2'
    &⟨n1,n2⟩:=List.nodup_cons.mp hn
    #,nZ
    by_cases hk:aV k'=some k
    ·rw [if_pos hk]
     rw [h1]at hk
     injection hk with hk
     rw [fQ hk,h2]at h
     cases h
     #⟨b,bs,kv',rfl,hb,hx1,hx2,e5.move (P:=fun c=>c=b) inO (fun a z=> .inl z) hS fun c hc z=>n1 (z▸hc)⟩
    ·rw [if_neg hk]
     have hk2:¬ p.1=k:=fun z=>hk (by rw [h1,z])
     rw [fR hk2]at h
     &⟨b',hb',e'⟩:=qL h2' h
     cases e'
     have hne:b0≠b:=fun z=>n1 (z▸hb')
     #⟨b0,bs,kv0,rfl,hS _ _ e2 hne,e3,e4.move (P:=fun c=>c=b) inO (fun a z=> .inl z) hS,rg hO hS hb hx1 hx2 h1' h2' e5 n2 h⟩
&qs_put2 (i:Nat)(hu:X.A.units+1<cLine)(ha:b9 X a fa)(hb:b9 X b fb)(hc:b9 X c fc)(hsl:wf a:=by intro _ _;rfl)(hN:X.N[i]? =some x:=by rfl)(hv:qH X.env.scope x:=by first | #Or.inl rfl | #Or.inr (Or.inl rfl) | #Or.inr (Or.inr rfl))
  (hd:(x == ("__debug__" : Str))=false:=by decide) (hcd:(x == ("__classdict__" : Str))=false:=by decide)
  (hs:swapsWith c (some (.Subscript (.Subscript (.Name x p2) a p3) b p4)) pos.line X.env=pure false:=by rfl):nT X (.Assign [.Subscript (.Subscript (.Name x p2) a p3) b p4] c pos) (ii i fa fb fc):=by
 intro pins s σ H D I ⟨ρ,B,M,E,h⟩
 &ui hu (ul hu (gY hN hv hd hcd) ha hsl) hb hc hs pins s σ H D I ?_
 unfold ii at h
 split at h
 ·rename_i ks rows hl
  &⟨v0,e1,d,kvs,as,rfl,hM,na,nas,e5,e6,e7,e8⟩:=E.env.own i _ hl
  &⟨ρ,OO B M,E.o,?_⟩
  cases q:fc ρ with
  | bad=>rw [q]at h;#h.elim
  | err c=>rw [q]at h;#PostF.xa h
  | ok vT=>
   rw [q,aD]at h
   intro H1 s1 v r
   &⟨.ref d,e1,ρ,OO B M,(E.same s1).o,?_⟩
   have h1:=h.later (SameO.of s1) (P1:=M.u) fun a z=> .inl z
   cases q2:fa ρ with
   | bad=>rw [q2]at h1;#h1.elim
   | err c=>rw [q2]at h1;#PostF.xa h1
   | ok aT=>
    rw [q2,aD]at h1
    intro H2 s2 y ry
    have h2:=h1.later (SameO.of s2) (P1:=M.u) fun a z=> .inl z
    have E2:=(E.same s1).same s2
    have s12:=s1.trans s2
    split at h2
    ·rename_i ka rr hk
     &⟨ka',q3,hk⟩:=Option.bind_eq_some_iff.mp hk
     &⟨r',q4,hk⟩:=Option.map_eq_some_iff.mp hk
     cases hk
     &⟨rb,kv,g1,g2,g3,g4,g5⟩:=rk e6 e7 e8 q4
     &⟨ndr,nzr⟩:=sj I g3
     &⟨ab,f1,f2⟩:=hV q3 ry
     &⟨d,.ref rb,rfl,by rw [f1,<-g1];#DGet.t (s12 _ _ e5) f2,ρ,OO B M,E2.o,?_⟩
     cases q5:fb ρ with
     | bad=>rw [q5]at h2;#h2.elim
     | err c=>rw [q5]at h2;#PostF.xa h2
     | ok bT=>
      rw [q5,aD]at h2
      intro H3 s3 y2 ry2
      have h3:=h2.later (SameO.of s3) (P1:=M.u) fun a z=> .inl z
      have s13:=s12.trans s3
      have E3:=E2.same s3
      have hlen:rr.1.length=kv.length:=by have:=congrArg List.length g4;simpa using this
      by_cases hz:(aV bT).isSome=true/\rr.1.length<1000
      ·rw [if_pos hz]at h3
       &⟨kb,q6⟩:=Option.isSome_iff_exists.mp hz.1
       &⟨bb,f3,f4⟩:=hV q6 ry2
       &⟨u1,u2⟩:=kz q6 ((r.same s2).same s3) g4 (g5.same s13) ndr
       &⟨rb,upd H3 rb (.dT (db kv kb v)),rfl,by rw [f3];#DPut.t (s13 _ _ g3) f4 (by rw [sizeLine_eq];omega),?_⟩
       have mrb:M i rb:=(hM rb).mpr (.inr g2)
       have hOb:OO B M rb:=.inr ⟨i,mrb⟩
       have sm1:SameO (fun c=>c=rb) H3 (upd H3 rb (.dT (db kv kb v))):=fun c u e nb=>by rw [aF nb];#e
       have sm:SameO (M i) H3 (upd H3 rb (.dT (db kv kb v))):=fun c u e nb=>sm1 c u e fun z=>nb (z▸mrb)
       have inO:∀ a,a=rb->OO B M a\/Nw X.K H3 a:=fun a z=> .inl (z▸hOb)
       have dne:d≠rb:=fun z=>na (z▸g2)
       &⟨g6,g7⟩:=E3.put (o':=.dd ks (nZ ka (gk bT vT rr.1 rr.2) ks rows)) hl e1 sm ⟨d,kvs,as,rfl,hM,na,nas,sm1 _ _ (s13 _ _ e5) dne,e6,e7,rg hOb sm1 aG u1 (u2.move (P:=fun c=>c=rb) inO (fun a z=> .inl z) sm1) e6 e7 (e8.same s13) nas g1⟩
       #h3 σ _ M g7 g6 fun c z=> .inl z
      ·rw [if_neg hz]at h3
       #h3.elim
    ·#h2.elim
 ·#h.elim
end
end Tr
namespace PySem
open Sem (wp)
namespace F
&lk_list_keys:typeLookup (.type "list") "keys" =pure none:=by rw [typeLookup_type,builtinLookup_eq_fast];kernel_rfl
&lk_list_getattr:typeLookup (.type "list") "__getattr__" =pure none:=by rw [typeLookup_type,builtinLookup_eq_fast];kernel_rfl
end F
section
variable {prog:Program}{w:World}{A:Around}{E:Value->Shared->Prop}{h:Heap}{g:Array GenState}{d:Drawn}{t:Nat}{os:OsState}{a:Addr}{its:Array Value}{n:Nat}
&lA {tk:Tok}{Q:Fin->Shared->Prop}(hx:h.get? a=some { cls:=.type "list",data:=.seq its n })(hh:A.handled=none)
  (hq:∀ h' tk' e,Heap.NewAttrErr h h' e (.ref a) "keys"->E (.ref e) ⟨h',g,d,tk',os⟩) :
  wpAny (model prog w) A (Builtin.«object.__getattribute__» ⟨[.ref a,.str "keys" tk],[]⟩) Q E ⟨h,g,d,t,os⟩:=by
 have hT:(⟨h,g,d,t,os⟩:Shared).TypeIs (.ref a) "list":=⟨_,hx,rfl⟩
 have f4:=F.lk_list_keys
 repeat (any_goals (first | assumption | wp_step))
 #wpAny_raiseAttrError hh (fun h' tk e hx=>hq h' tk e hx) (attrMsg_fits (by decide+kernel) (by rw [sizeLine_eq];decide))
&mV {tk:Tok}{R:Result->Shared->Prop}(hx:h.get? a=some { cls:=.type "list",data:=.seq its n })(hh:A.handled=none)
  (hq:∀ h' tk' e,Heap.NewAttrErr h h' e (.ref a) "keys"->R (.error (.ref e)) ⟨h',g,d,tk',os⟩) :
  codeAny (model prog w) A (.call (.builtin "list.__getattribute__") ⟨[.ref a,.str "keys" tk],[]⟩) R ⟨h,g,d,t,os⟩:=
 codeAny_call_builtin F.slot_list_getattribute.plain F.entry_list_ga (F.slot_list_getattribute.check _ _ _ _ _ _ _ _ (show(⟨h,g,d,t,os⟩:Shared).TypeIs (.ref a) "list" from⟨_,hx,rfl⟩) (F.args_list_getattribute_2 _ _) (lA hx hh hq))
&mW {Q:Option Value->Shared->Prop}(hx:h.get? a=some { cls:=.type "list",data:=.seq its n })(hh:A.handled=none)
  (hq:∀ h' tk',(∀b o,h.get? b=some o->h'.get? b=some o)->Q none ⟨h',g,d,tk',os⟩):wpAny (model prog w) A (getAttr? (.ref a) "keys") Q E ⟨h,g,d,t,os⟩:=by
 have hT:∀ tk,(⟨h,g,d,tk,os⟩:Shared).TypeIs (.ref a) "list":=fun _=>⟨_,hx,rfl⟩
 have f1:=sub_AttributeError
 have f2:=F.slot_list_getattribute.lookup
 have f3:=F.slot_list_getattribute.bind (.ref a)
 have f5:=F.lk_list_getattr
 unfold getAttr? getAttrBy? getAttrBy
 repeat (any_goals (first | assumption | #hT _ | wp_step))
 &mV hx hh fun h' tk' e hx'=> ?_
 &⟨t',u',he⟩:=hx'.there
 repeat (any_goals (first | assumption | #hT _ | wp_step))
 #hq _ _ hx'.keeps
end
end PySem
namespace PySem.F
&entry_dict_update_loop:entryFor table "dict.update.loop" =some Builtin.«dict.update.loop»:=entryFor_of_tree (by kernel_rfl)
&plain_dict_update_loop:plainId "dict.update.loop" =true:=by decide+kernel
end PySem.F
namespace Tr
open PySem PySem.Spec PyProof.Rows L2
def eJ (kvs:List (List Key×V)):List (List Key×V)->List (List Key×V)
 | [] =>kvs
 | p::ps=>eJ (db kvs p.1 p.2) ps
def PairsAt (H:Hp):List V->List (List Key×V)->Prop
 | [],ps=>ps= []
 | x::xs,ps=> ∃b kb p r,ps=p::r/\x= .ref b/\H b=some (.tup [.ref kb,p.2])/\H kb=some (.tup (p.1.map kV))/\PairsAt H xs r
&PairsAt.upd {H:Hp}{d:Addr}{kvs:List (List Key×V)}{o:HO}(hd:H d=some (.dT kvs)):∀ {xs:List V} {ps:List (List Key×V)},PairsAt H xs ps->PairsAt (L2.upd H d o) xs ps
 | [],_,h=>h
 | x::xs,_,⟨b,kb,p,r,e1,e2,e3,e4,e5⟩=>⟨b,kb,p,r,e1,e2,by rw [aF (kn e3 hd (fun z=>nomatch z))];#e3,by rw [aF (kn e4 hd (fun z=>nomatch z))];#e4,e5.upd hd⟩
&pj {H:Hp}{d:Addr}{a b:HO}:upd (upd H d a) d b=upd H d b:=by
 funext c
 by_cases h:c=d
 ·rw [h,aG,aG]
 ·rw [aF h,aF h,aF h]
section
variable {X:Cx}{pins:List (Addr×Obj)}{σ:L2.St}{A:Around}{res:Value}{R:Result->Shared->Prop}{d l it:Addr}{xs:List V}
&v6 (hh:A.handled=none)(hu:A.units+3<cLine):∀ (k i:Nat) (s:Shared) (H:Hp) (kvs ps:List (List Key×V)),xs.length - i=k->i<=xs.length->H l=some (.lst xs)->H d=some (.dT kvs)->kvs.length+(xs.length - i)<=1000->Inv X pins σ H s->s.heap.IsListIter it l i->nQ X pins H it->PairsAt H (xs.drop i) ps →
  (∀s',Inv X pins σ (upd H d (.dT (eJ kvs ps))) s'->R (.ok (.ret res)) s')->codeAny (model X.prog X.w) A (.builtin "dict.update.loop" ⟨[.ref d,.ref it,rawInt i,res],[]⟩) R s:=by
 intro k
 induction k with
 | zero=>
  intro i s H kvs ps hk hi hl hd hz I hit hf hp hR
  &codeAny_builtin F.entry_dict_update_loop ?_
  rw [Around.under_plainId F.plain_dict_update_loop _]
  &⟨z,its,n,r,hlen,e⟩:=I.lstM hl
  have hL:s.heap.IsList l its.toArray:=⟨_,e,rfl,n,rfl⟩
  show wpAny _ A.in1 (pyNext (.ref it) >>= _) _ _ s
  &wpAny_bind (wpAny_pyNext_list_end hh hit hL (by simp;omega) fun h' hm=> ?_)
  show wpAny _ _ (Builtin.Dict.addKeywords d [] >>= _) _ _ _
  &wpAny_bind (wpAny_pure (wpAny_pure ?_))
  have hnil:xs.drop i= []:=List.drop_eq_nil_of_le (by omega)
  rw [hnil]at hp
  unfold PairsAt at hp
  subst hp
  have e2:upd H d (.dT (eJ kvs []))=H:=by
   funext b
   by_cases hb:b=d
   ·rw [hb,aG,hd];rfl
   ·rw [aF hb]
  rw [e2]at hR
  #hR _ (I.turnedL (fp:=[it]) (t':=s.toks) (fun b hb=>by rw [List.mem_singleton.mp hb];#hf) fun b o hb eb=>hm b o (fun z=>hb (by rw [z];#List.mem_singleton.mpr rfl)) eb)
 | succ k ih=>
  intro i s H kvs ps hk hi hl hd hz I hit hf hp hR
  &codeAny_builtin F.entry_dict_update_loop ?_
  rw [Around.under_plainId F.plain_dict_update_loop _]
  &⟨z,its,n,r,hlen,e⟩:=I.lstM hl
  have hL:s.heap.IsList l its.toArray:=⟨_,e,rfl,n,rfl⟩
  have hlt:i<xs.length:=by omega
  have hlt':i<its.length:=by omega
  show wpAny _ A.in1 (pyNext (.ref it) >>= _) _ _ s
  &wpAny_bind (wpAny_pyNext_list_item hit hL (x:=its[i]) (by simp [hlt']) fun h' hit' hm=> ?_)
  have I1:Inv X pins σ H { s with heap:=h' }:=I.turnedL (fp:=[it]) (t':=s.toks) (fun b hb=>by rw [List.mem_singleton.mp hb];#hf) fun b o hb eb=>(hm.2 b (fun z=>hb (by rw [z];#List.mem_singleton.mpr rfl))).trans eb
  have hdrop:xs.drop i=xs[i] ::xs.drop (i+1):=List.drop_eq_getElem_cons hlt
  rw [hdrop]at hp
  &⟨b,kb,p,r',rfl,ex,hb,hkb,hp'⟩:=hp
  have rx:RelV xs[i] its[i]:=by
   &⟨u,q1,q2⟩:=r.get (List.getElem?_eq_getElem hlt)
   rw [List.getElem?_eq_getElem hlt']at q1
   cases q1
   #q2
  rw [ex]at rx
  have eu:its[i] =Value.ref b:=rx
  rw [eu]
  &⟨z2,its2,r2,ob,hob1,hob2,nb,hob3⟩:=(show ObjOk X.prog X.w H h' b (.tup [.ref kb,p.2])from I1.hok b _ hb)
  obtain⟨u1,us1,q1,rfl⟩:∃ u1 us1,RelV (V.ref kb) u1/\its2=u1::us1:=by cases r2 with | cons a b=>#⟨_,_,a,rfl⟩
  cases r2 with
  | cons ra rb=>
   obtain⟨u2,q2,rfl⟩:∃ u2,RelV p.2 u2/\us1= [u2]:=by cases rb with | cons a b=>cases b;#⟨_,a,rfl⟩
   obtain rfl:u1=Value.ref kb:=q1
   show wpAny _ A.in1 (holding [Value.ref b] _ >>= _) _ _ _
   &wpAny_bind (wpAny_holding ?_)
   &wpAny_bind (wpAny_tryCatch ?_)
   #,Builtin.Dict.pairItems
   &wpAny_bind (wpAny_typeOf (s:={ s with heap:=h' }) (T:="tuple") ⟨ob,hob1,hob2⟩ ?_)
   rw [if_pos (by decide)]
   &wpAny_bind (wpAny_seqItems (s:={ s with heap:=h' }) hob1 hob3 (wpAny_pure ?_))
   show wpAny _ _ (holding [Value.ref kb,u2] (dictSet d (.ref kb) u2)) _ _ _
   &wpAny_holding ?_
   &⟨zz,hds,xs2,rel,dd⟩:=yO I1.hok hd
   have hzl:xs2.length<=sizeLine:=by rw [<-Paired.length rel];#zz
   have hkl:kvs.length<sizeLine:=by rw [sizeLine_eq];omega
   have hl2:(db kvs p.1 p.2).length<=sizeLine:=by have:=gu kvs p.1 p.2;omega
   &wpAny_dictSet_heap (hsz:=hzl) (tupleKind_room_in1 (by show A.units+1<cLine;omega)) (mX I1.hok hkb) dd fun h2 dd2 hs2=> ?_
   &⟨q,es,ep,hq,h22,h3,h4,_,h5⟩:=dd2
   have I2:Inv X pins σ (upd H d (.dT (db kvs p.1 p.2))) { s with heap:=h2,toks:=s.toks+(tupleKind (cI X.prog X.w)).draws p.1 }:=
    qv (s:={ s with heap:=h' }) I1 (by rw [hd];#True.intro) hs2 ⟨q,hq⟩ ⟨hl2,hds,_,(rel.put p.1 hkb q2).keeps fun c ys ec=>by rw [aF (kn ec hd (fun z=>nomatch z))];#ec,q,es,ep,hq,h22,h3,h4,h5⟩
   have hld:l≠d:=kn hl hd (fun z=>nomatch z)
   have hitd:it≠d:=fun z=>by have:=hf.1;rw [z,hd]at this;cases this
   have hcast:(i:Int)+1=((i+1:Nat):Int):=by omega
   &wpAny_pure ⟨plainId_quiet F.plain_dict_update_loop _,?_⟩
   rw [hcast]
   &ih (i+1) _ (upd H d (.dT (db kvs p.1 p.2))) (db kvs p.1 p.2) r' (by omega) (by omega) (by rw [aF hld];#hl) aG (by have:=gu kvs p.1 p.2;omega) I2 ?_ ⟨by rw [aF hitd];#hf.1,hf.2⟩ (hp'.upd hd) fun s' I'=> ?_
   ·&⟨oi,ho1,ho2,ho3⟩:=hit'
    #⟨oi,(hs2.2 it hitd).trans ho1,ho2,ho3⟩
   ·rw [pj]at I'
    #hR s' I'
end
&PairsAt.same {H H':Hp}(s:Same H H'):∀ {xs:List V} {ps:List (List Key×V)},PairsAt H xs ps->PairsAt H' xs ps
 | [],_,h=>h
 | x::xs,_,⟨b,kb,p,r,e1,e2,e3,e4,e5⟩=>⟨b,kb,p,r,e1,e2,s _ _ e3,s _ _ e4,e5.same s⟩
section
variable {X:Cx}{pins:List (Addr×Obj)}{σ:L2.St}{A:Around}{E:Value->Shared->Prop}{H:Hp}{s:Shared}{l:Addr}{xs:List V}{ps:List (List Key×V)}
&si {Q:Value->Shared->Prop}(hh:A.handled=none)(hu:A.units+8<cLine)(I:Inv X pins σ H s)(hl:H l=some (.lst xs))(hz:xs.length<=1000)(hp:PairsAt H xs ps)
  (h:∀ p s',Nw X.K H p->Inv X pins σ (upd H p (.dT (eJ [] ps))) s'->Q (.ref p) s'):wpAny (model X.prog X.w) A (call (.type "dict") [.ref l]) Q E s:=by
 have hk:X.K.lookup s.heap.objs.size=none:=by
  cases q:X.K.lookup s.heap.objs.size with
  | none=>rfl
  | some o=>#absurd (Heap.lt_size (I.kIn _ o q)) (Nat.lt_irrefl _)
 have hn:H s.heap.objs.size=none:=I.hok.fresh (Nat.le_refl _)
 have hlp:l≠s.heap.objs.size:=fun z=>by rw [z,hn]at hl;cases hl
 &callType_codes (Q₁:=fun obj s₁=>obj= .ref s.heap.objs.size/\s₁= { s with heap:=s.heap.push { cls:=.type "dict",data:=.dict #[] } }) F.kt_called_dict (F.kt_typeCall_dict_1 _) F.entry_dict_init (kt_code_dict_new _ ⟨rfl,rfl⟩) ?_
 rintro obj s₁ ⟨rfl,rfl⟩
 have I1:Inv X pins σ (upd H s.heap.objs.size (.dT [])) { s with heap:=s.heap.push { cls:=.type "dict",data:=.dict #[] } }:=I.laid (a:=s.heap.objs.size) (o:=.dT []) (t':=s.toks) (fun _ _ q=>Heap.get?_push_of_some _ q) (Nat.le_refl _) (yP s.heap I.big)
 have hT:({ s with heap:=s.heap.push { cls:=.type "dict",data:=.dict #[] } }:Shared).TypeIs (.ref s.heap.objs.size) "dict":=⟨_,Heap.get?_push_size _ rfl,rfl⟩
 have hl1:upd H s.heap.objs.size (.dT []) l=some (.lst xs):=by rw [aF hlp];#hl
 &⟨z,its,n,r,hlen,e⟩:=I1.lstM hl1
 &⟨hT,F.args_dict_init_2 _ _,?_⟩
 #,Builtin.«dict.__init__»
 &wpAny_bind ?_
 #,Builtin.Dict.selfAndRest
 &wpAny_bind (wpAny_notOrdered_dict hT ?_)
 show wpAny _ _ (pure (s.heap.objs.size,[Value.ref l])) _ _ _
 &wpAny_pure ?_
 show wpAny _ _ (Builtin.Dict.updateFrom "dict.__init__" s.heap.objs.size (.ref l) [] .none) _ _ _
 #,Builtin.Dict.updateFrom
 &wpAny_bind (wpAny_typeOf (T:="list") ⟨_,e,rfl⟩ ?_)
 rw [if_pos (by decide)]
 &wpAny_bind (mW e hh fun h' tk' kp=> ?_)
 have I2:Inv X pins σ (upd H s.heap.objs.size (.dT [])) { s with heap:=h',toks:=tk' }:=I1.kept (t':=tk') kp
 rw [if_pos (by rfl)]
 &wpAny_bind (wpAny_rule ?_)
 have eL:({ s with heap:=h',toks:=tk' }:Shared).heap.IsList l its.toArray:=⟨_,kp _ _ e,rfl,n,rfl⟩
 &wpAny_bind (wpAny_pyIter_list eL ?_)
 have I3:Inv X pins σ (upd H s.heap.objs.size (.dT [])) { s with heap:=h'.push { cls:=.type "list_iterator",data:=.fields #[.ref l,.int 0 0] },toks:=tk' }:=I2.kept (t':=tk') fun b u q=>Heap.get?_push_of_some _ q
 have hpl:s.heap.objs.size<h'.objs.size:=Heap.lt_size (kp _ _ (Heap.get?_push_size _ rfl))
 have hni:upd H s.heap.objs.size (.dT []) h'.objs.size=none:=by
  rw [aF (Nat.ne_of_gt hpl)]
  #I.hok.fresh (Nat.le_of_lt hpl)
 have hp1:PairsAt (upd H s.heap.objs.size (.dT [])) xs ps:=hp.same (aS hn _)
 &wpAny_pure ⟨plainId_quiet F.plain_dict_update_loop _,?_⟩
 &v6 (A:=A.in1) (X:=X) (pins:=pins) (σ:=σ) (l:=l) (xs:=xs) (it:=h'.objs.size) hh (by show A.units+1+3<cLine;omega) xs.length 0 _ (upd H s.heap.objs.size (.dT [])) [] ps (by omega) (Nat.zero_le _) hl1 aG (by simp;omega) I3 ⟨_,Heap.get?_push_size _ rfl,rfl,rfl⟩ (I2.fpOk (Nat.le_refl _) hni) hp1 fun s' I'=> ?_
 rw [pj]at I'
 #⟨rfl,h _ _ ⟨hn,hk⟩ I'⟩
end
&hu8 {k:Nat}{A:Around}(h:Room k A):A.units+8<cLine:=by have:=h.un;omega
&tf {kvs:List (List Key×V)}{k:List Key}{v:V}(h:(kvs.map (·.1)).Nodup):((db kvs k v).map (·.1)).Nodup:=by
 #,db
 by_cases a:(kvs.any fun kv=>decide (kv.1=k))=true
 ·rw [if_pos a,List.map_map]
  have:((fun x=>x.1)∘fun kv:List Key×V=>if kv.1=k then(kv.1,v)else kv)=fun x=>x.1:=by
   funext x
   show(if x.1=k then(x.1,v)else x).1=x.1
   by_cases e:x.1=k
   ·rw [if_pos e]
   ·rw [if_neg e]
  rw [this]
  #h
 ·rw [if_neg a,List.map_append,List.nodup_append]
  &⟨h,by simp,fun x hx y hy=> ?_⟩
  simp only [List.map_cons,List.map_nil,List.mem_singleton]at hy
  subst hy
  intro z
  subst z
  &⟨p,hp,e⟩:=List.mem_map.mp hx
  #a (List.any_eq_true.mpr ⟨p,hp,decide_eq_true e⟩)
def PsR (K:PySem.W.Frag)(O:Ow)(H:Hp):List (T×T)->List (List Key×V)->Prop
 | [],ps=>ps= []
 | a::l,ps=> ∃p r,ps=p::r/\aV a.1=some p.1/\Rep K O H a.2 p.2/\PsR K O H l r
&oZ {K:PySem.W.Frag}{O:Ow}{H:Hp}:∀ {l:List (T×T)} {ps:List (List Key×V)} {ks ts:List T} {kvs:List (List Key×V)},PsR K O H l ps->ks.map aV=kvs.map (fun p=>some p.1)->Reps K O H ts (kvs.map (·.2))->(kvs.map (·.1)).Nodup →
  (iY l (ks,ts)).1.map aV=(eJ kvs ps).map (fun p=>some p.1)/\Reps K O H (iY l (ks,ts)).2 ((eJ kvs ps).map (·.2))
 | [],ps,ks,ts,kvs,h,h1,h2,hn=>by unfold PsR at h;subst h;#⟨h1,h2⟩
 | (a,b)::l,ps,ks,ts,kvs,h,h1,h2,hn=>by
  &⟨p,r,rfl,e1,e2,e3⟩:=h
  &⟨g1,g2⟩:=kz (vT:=b) e1 e2 h1 h2 hn
  show(iY l (gk a b ks ts)).1.map aV=(eJ (db kvs p.1 p.2) r).map (fun p=>some p.1)/\Reps K O H (iY l (gk a b ks ts)).2 ((eJ (db kvs p.1 p.2) r).map (·.2))
  #oZ (l:=l) e3 g1 g2 (tf hn)
&uj {K:PySem.W.Frag}{O:Ow}{H:Hp}:∀ {l:List T} {tps:List (T×T)} {xs:List V},prs l=some tps->Reps K O H l xs->∃ ps,PairsAt H xs ps/\PsR K O H tps ps
 | [],tps,xs,h,r=>by cases Reps.nil_iff.mp r;cases h;#⟨[],rfl,rfl⟩
 | t::l,tps,xs,h,r=>by
  &⟨v,ws,rfl,p,q⟩:=Reps.cons_iff.mp r
  unfold prs at h
  split at h
  ·rename_i heq;cases heq
  ·rename_i k v' l' heq
   cases heq
   split at h
   ·rename_i kk rr hk hr
    cases h
    &⟨ps,g1,g2⟩:=uj hr q
    &⟨b,vs,e1,e2,e3,e4⟩:=Rep.tup_iff.mp p
    &⟨u1,us1,rfl,f1,f2⟩:=Reps.cons_iff.mp e4
    &⟨u2,us2,rfl,f3,f4⟩:=Reps.cons_iff.mp f2
    cases Reps.nil_iff.mp f4
    &⟨kb,f5,f6⟩:=hV hk f1
    subst f5
    #⟨(kk,u2)::ps,⟨b,kb,(kk,u2),ps,rfl,e1,e3,f6,g1⟩,⟨(kk,u2),ps,rfl,hk,f3,g2⟩⟩
   ·cases h
  ·cases h
section
variable {X:Cx}{e:Expr}{f:En->Rs T}{x y:Str}{p pos p2 p3:Pos}
def tDictN (X:Cx)(f:En->Rs T):TE:=fun σ H Q=>tP X f σ H fun v H'=> ∃a xs ps,v= .ref a/\H' a=some (.lst xs)/\xs.length<=1000/\PairsAt H' xs ps/\∀ q,Nw X.K H' q->Q (.ref q) (upd H' q (.dT (eJ [] ps)))
&xz (hu:X.A.units+8<cLine)(hc:X.calm=true)(hm:X.mg "dict" =none)(ha:b9 X e f)(hg:Gl X "dict")(hs:bx e=true):PE X (.Call (.Name "dict" p) [e] [] pos) (tDictN X f):=by
 have h1:starEach [e] X.env=(false,eval e X.env)::starEach [] X.env:=bh hs
 intro pins s σ H Q I hq
 &wpAny_Call_Name_kw (ge I hg hm (show bootBuiltins "dict" =some (.type "dict")by decide+kernel) ?_ (by decide) (by decide))
 &PyProof.Rows.callWith_type1 (bU (bi (te:=tP X f) ha df h1 pos pins s σ H (fun xs H'=> ∃v,xs= [v]/\∃ a xs ps,v= .ref a/\H' a=some (.lst xs)/\xs.length<=1000/\PairsAt H' xs ps/\∀ q,Nw X.K H' q->Q (.ref q) (upd H' q (.dT (eJ [] ps)))) I ?_) fun us s1 hh=> ?_) h1 rfl
 ·&⟨ρ,O,E,h⟩:=hq
  #⟨ρ,O,E,Post.mono h fun t H' _ g v r=>⟨v,rfl,g v r⟩⟩
 ·&⟨vs,H1,I1,r1,v,rfl,a,xs,ps,ev,e1,e2,e3,e4⟩:=hh
  subst ev
  &⟨u,rfl,ru⟩:=r1.one
  obtain rfl:u=Value.ref a:=ru
  #si (I1.ok.hd hc) hu I1 e1 e2 e3 fun q s' nw I'=>⟨.ref q,_,I',rfl,e4 q nw⟩
&qs_newD (i:Nat)(hu:X.A.units+8<cLine)(hc:X.calm=true)(hm:X.mg "dict" =none)(hN:X.N.Nodup)(ha:b9 X e f)(hst:bx e=true:=by rfl)(hg:Gl X "dict":=by rfl)(hi:X.N[i]? =some x:=by rfl)(hx:Loc X.env.scope x:=by first | #Or.inl rfl | #Or.inr rfl)(hs:swapsWith (.Call (.Name "dict" p) [e] [] p2) (some (.Name x p3)) pos.line X.env=pure false:=by rfl)
  (hf:X.fn x=true\/X.env.scope.names.lookup x=some .local:=by first | #.inl rfl | #.inr rfl | assumption):nT X (.Assign [.Name x p3] (.Call (.Name "dict" p) [e] [] p2) pos) (oC i f):=PS.imp (mq hN hi hx (xz hu hc hm ha hg hst) hs hf) fun D σ H hh_=>by
 &⟨ρ,B,M,E,h⟩:=hh_
 &⟨ρ,OO B M,E.o,?_⟩
 unfold oC at h
 cases q:f ρ with
 | bad=>rw [q]at h;#h.elim
 | err c=>rw [q]at h;#PostF.xa h
 | ok t=>
  rw [q,aD]at h
  intro H1 s1 v r
  have h1:=h.later (SameO.of s1) (P1:=M.u) fun a z=> .inl z
  cases t with
  | lst l=>
   &⟨a,xs,rfl,e2,e3,e4⟩:=Rep.lst_iff.mp r
   unfold uW at h1
   split at h1
   ·rename_i l' heq
    cases heq
    split at h1
    ·rename_i tps hps
     by_cases hz:l.length<=1000
     ·rw [if_pos hz,aD]at h1
      &⟨ps,g1,g2⟩:=uj hps e4
      &⟨a,xs,ps,rfl,e3,by rw [<-e4.length];#hz,g1,fun nd nw=> ?_⟩
      by_cases hl:i<ρ.length
      ·simp only [if_pos hl]at h1
       have hm:∀ a,a=nd->Nw X.K H1 a:=fun a z=>z▸nw
       &⟨k1,k2⟩:=oZ (ks:=[]) (ts:=[]) (kvs:=[]) g2 rfl Reps.nil_ List.nodup_nil
       &⟨E2,sub⟩:=(E.same s1).new (m:=fun a=>a=nd) (o:=.dct (iY tps ([],[])).1 (iY tps ([],[])).2) (v:=.ref nd) (H':=upd H1 nd (.dT (eJ [] ps))) hl hm (aS nw.1 _) ⟨nd,_,rfl,fun b=>Iff.rfl,aG,k1,(k2.more (Ev.subO hm)).same (aS nw.1 _)⟩
       #h1 _ _ _ (SameO.of (aS nw.1 _)) E2 sub
      ·simp only [if_neg hl]at h1;#h1.elim
     ·rw [if_neg hz]at h1;#h1.elim
    ·#h1.elim
   ·rename_i hno
    #(hno l rfl).elim
  | _=>#h1.elim
end
&jQ {K:PySem.W.Frag}{O:Ow}{H:Hp}:∀ {l:List T} {ns:List Int} {xs:List V} {us:List Value},gP l=some ns->Reps K O H l xs->Vals xs us->IntsAre us ns
 | [],ns,xs,us,h,r,v=>by cases Reps.nil_iff.mp r;cases v;cases h;#.nil
 | t::l,ns,xs,us,h,r,v=>by
  &⟨w,ws,rfl,p,q⟩:=Reps.cons_iff.mp r
  cases v with
  | cons v1 v2=>
   cases t with
   | int i=>
    unfold gP at h
    &⟨m,h1,rfl⟩:=Option.map_eq_some_iff.mp h
    cases Rep.int_iff.mp p
    &⟨k,rfl⟩:=v1
    #.cons _ _ (jQ h1 q v2)
   | _=>cases h
&oK:∀ (l:List Int) (i:Int),kP i l∈i::l/\∀ a∈i::l,a<=kP i l
 | [],i=>⟨List.mem_cons_self,fun a h=>by cases List.mem_singleton.mp h;#Int.le_refl _⟩
 | j::l,i=>by
  &⟨h1,h2⟩:=oK l (if i<j then j else i)
  #,kP
  have h3:=h2 _ List.mem_cons_self
  &⟨?_,fun a ha=> ?_⟩
  ·rcases List.mem_cons.mp h1 with e | e
   ·rw [e]
    by_cases h:i<j
    ·rw [if_pos h];simp
    ·rw [if_neg h];simp
   ·#List.mem_cons_of_mem _ (List.mem_cons_of_mem _ e)
  ·rcases List.mem_cons.mp ha with rfl | ha
   ·by_cases h:a<j
    ·rw [if_pos h]at h3 ⊢;omega
    ·rw [if_neg h]at h3 ⊢;omega
   ·rcases List.mem_cons.mp ha with rfl | ha
    ·by_cases h:i<a
     ·rw [if_pos h]at h3 ⊢;omega
     ·rw [if_neg h]at h3 ⊢;omega
    ·#h2 a (List.mem_cons_of_mem _ ha)
section
variable {X:Cx}
&tQ (hc:X.calm=true):CallT X (.builtin "sum") sO:=by
 intro pins s σ H O ts vs us Q I hf rs rv hp
 unfold sO at hp
 split at hp
 ·rename_i l
  &⟨v,rfl,r⟩:=rs.one
  split at hp
  ·rename_i ns hk
   &⟨a,ws,rfl,n,q,z⟩:=Rep.lst_iff.mp r
   &⟨u,rfl,ru⟩:=jA rv
   cases ru
   &⟨its,r',pl,hz⟩:=I.list (SqL.of q)
   have hi:=jQ hk z r'
   &⟨xs,e⟩:=hi.allInts.items
   have hns:ns=xs.toList.map (·.1):=by rw [<-hi.numsOf,<-nums_intItems,<-e]
   have hl:s.heap.IsList a (intItems xs):=by rw [<-e];#pl.isList
   &sum_intListG (I.ok.hd hc) hl fun h' tk t' hk'=>⟨.int _,H,I.kept (t':=tk) hk',⟨_,rfl⟩,?_⟩
   have:preSum (numAt xs) xs.size=ns.sum:=by rw [hns,preSum_eq,List.take_of_length_le (by simp)]
   rw [this]
   #hp H (Same.refl H) _ (Rep.int_ _)
  ·#hp.elim
 ·#hp.elim
&ct_max (hc:X.calm=true):CallT X (.builtin "max") maxT:=by
 intro pins s σ H O ts vs us Q I hf rs rv hp
 unfold maxT at hp
 split at hp
 ·rename_i l
  &⟨v,rfl,r⟩:=rs.one
  split at hp
  ·rename_i i ns hk
   &⟨a,ws,rfl,n,q,z⟩:=Rep.lst_iff.mp r
   &⟨u,rfl,ru⟩:=jA rv
   cases ru
   &⟨its,r',pl,hz⟩:=I.list (SqL.of q)
   have hi:=jQ hk z r'
   &⟨xs,e⟩:=hi.allInts.items
   have hns:i::ns=xs.toList.map (·.1):=by rw [<-hi.numsOf,<-nums_intItems,<-e]
   have hl:s.heap.IsList a (intItems xs):=by rw [<-e];#pl.isList
   have hsz:0<xs.size:=by
    have h3:=congrArg List.length hns
    rw [List.length_cons,List.length_map]at h3
    rw [<-Array.length_toList]
    omega
   &max_intList (I.ok.hd hc) hl hsz fun v h' tk hv hk'=> ?_
   &⟨t,rfl⟩:=intItems_at hv
   &⟨h1,h2⟩:=argBest_gt (numAt xs) (xs.size - 1)
   &⟨.int _,H,I.kept (t':=tk) hk',⟨_,rfl⟩,?_⟩
   have eM:numAt xs (argBest (fun i j=>decide (numAt xs i > numAt xs j)) (xs.size - 1))=kP i ns:=by
    &⟨g1,g2⟩:=oK ns i
    have m1:numAt xs (argBest (fun i j=>decide (numAt xs i > numAt xs j)) (xs.size - 1))∈i::ns:=by
     rw [hns,numAt_eq];#PySem.getD_mem (by rw [List.length_map,Array.length_toList];omega)
    have k1:=g2 _ m1
    rw [hns]at g1
    &⟨j,hj,ej⟩:=mem_getD g1
    rw [List.length_map,Array.length_toList]at hj
    rw [<-numAt_eq]at ej
    have k2:=h2 j (by omega)
    rw [ej]at k2
    #Int.le_antisymm k1 k2
   rw [eM]
   #hp H (Same.refl H) _ (Rep.int_ _)
  ·#hp.elim
 ·rename_i i j
  &⟨v,ws,rfl,p,q⟩:=Reps.cons_iff.mp rs
  &⟨v2,rfl,p2⟩:=q.one
  cases Rep.int_iff.mp p
  cases Rep.int_iff.mp p2
  &wb hc pins s σ H _ us Q I rv ⟨i,j,rfl,?_⟩
  #hp H (Same.refl H) _ (Rep.int_ _)
 ·#hp.elim
end
end Tr
namespace Tr
def fF:List T->Option (List (List Int))
 | [] =>some []
 | .tup l::r=>match gP l,fF r with
  | some ns,some k=>if ns= []then none else some (ns::k)
  | _,_=>none
 | _=>none
end Tr
namespace Tr
open PySem PySem.Spec PyProof.Rows L2
section
variable {X:Cx}
&fM:∀ {m:List T} {ns:List Int},gP m=some ns->m=ns.map .int
 | [],ns,h=>by cases h;rfl
 | t::m,ns,h=>by
  cases t with
  | int i=>
   unfold gP at h
   &⟨k,h1,rfl⟩:=Option.map_eq_some_iff.mp h
   rw [fM h1];rfl
  | _=>cases h
end
structure QE (X:Cx)(e:Expr)(f:En->Rs T):Prop where
 h:b9 X e f
structure QA (X:Cx)(e:List Expr)(f:En->Rs (List T)):Prop where
 h:qE X e f
structure QT (X:Cx)(e:Expr)(f:En->Rs Bool):Prop where
 h:sC X e f
structure QW (X:Cx)(e:Expr)(f:En->Rs Bool):Prop where
 h:PWt X e f
structure QS (X:Cx)(e:Stmt)(f:En->Rs Fl):Prop where
 h:nT X e f
structure yZ (X:Cx)(e:List Stmt)(f:En->Rs Fl):Prop where
 h:k7 X e f
structure QG (X:Cx)(e:Expr)(f:T->En->Rs En):Prop where
 h:PGt X e f
structure QGs (X:Cx)(e:List Expr)(f:List T->En->Rs En):Prop where
 h:za X e f
structure QI (X:Cx)(t e:Expr)(f:En->Rs (List T)):Prop where
 h:wq X t e f
structure QO (X:Cx)(e:Option Expr)(f:En->Rs (Option Int)):Prop where
 h:POt X e f
structure QIf (X:Cx)(e:List Expr)(f:En->Rs Bool):Prop where
 h:wr X e (wJ X f)
&ad {X:Cx}(i:Nat){x:Str}{pos:Pos}(hN:(Cx.N X)[i]? =some x:=by rfl)(hv:qH (Env.scope (Cx.env X)) x:=by first | #Or.inl rfl | #Or.inr (Or.inl rfl) | #Or.inr (Or.inr rfl))(hd:(x == Str.ofString "__debug__")=false:=by decide)(hcd:(x == Str.ofString "__classdict__")=false:=by decide):QE X (Expr.Name x pos) (vr i):=
 ⟨q_var (i:=i) (hN:=hN) (hv:=hv) (hd:=hd) (hcd:=hcd)⟩
&ag {X:Cx}{i:Int}{j:Nat}{pos:Pos}:QE X (Expr.Constant (Const.int i) j pos) (cn (T.int i)):=
 ⟨q_int ⟩
&dQ {X:Cx}{i:Bool}{j:Nat}{pos:Pos}:QE X (Expr.Constant (Const.bool i) j pos) (cn (T.bl i)):=
 ⟨q_bl ⟩
&bB {X:Cx}{j:Nat}{pos:Pos}:QE X (Expr.Constant Const.none j pos) (cn T.non):=
 ⟨q_non ⟩
&wv {X:Cx}{i:Str}{j:Nat}{pos:Pos}:QE X (Expr.Constant (Const.str i) j pos) (cn (T.str i)):=
 ⟨q_str ⟩
&zq_gint {X:Cx}{x:Str}{i:Int}{u:Value}{pos:Pos}(hm:Cx.mg X x=some u)(r:L2.RelV (V.int i) u)(hg:Gl X x:=by rfl)(hd:(x == Str.ofString "__debug__")=false:=by decide):QE X (Expr.Name x pos) (cn (T.int i)):=
 ⟨q_gint (hm:=hm) (r:=r) (hg:=hg) (hd:=hd)⟩
&af {X:Cx}:QA X [] ah:=
 ⟨qa_nil ⟩
&ae {X:Cx}{e:Expr}{es:List Expr}{f:En->Rs T}{g:En->Rs (List T)}(he:QE X e f)(hr:QA X es g)(hn:bx e=true:=by rfl):QA X (e::es) (ac f g):=
 ⟨qa_c (he:=he.h) (hr:=hr.h) (hn:=hn)⟩
&a7 {X:Cx}{es:List Expr}{x1:Nat}{pos:Pos}{f:En->Rs (List T)}(h:QA X es f):QE X (Expr.Tuple es x1 pos) (aW f):=
 ⟨q_tup (h:=h.h)⟩
&cJ {X:Cx}{es:List Expr}{pos:Pos}{f:En->Rs (List T)}(h:QA X es f):QE X (Expr.List es pos) (b7 f):=
 ⟨q_lst (h:=h.h)⟩
&aq {X:Cx}{a b:Expr}{fa fb:En->Rs T}{pos:Pos}{op:Operator}{g:T->T->Rs T}(ho:OpT X (binaryOp op) g)(ha:QE X a fa)(hb:QE X b fb):QE X (Expr.BinOp a op b pos) (o2 g fa fb):=
 ⟨q_bin (ho:=ho) (ha:=ha.h) (hb:=hb.h)⟩
&dX {X:Cx}{a b:Expr}{fa fb:En->Rs T}{pos:Pos}{op:CmpOp}{g:T->T->Rs T}(ho:OpT X (compareOp op) g)(ha:QE X a fa)(hb:QE X b fb)(hm:behindInMarks op b=false:=by rfl):QE X (Expr.Compare a [op] [b] pos) (o2 g fa fb):=
 ⟨q_cmp (ho:=ho) (ha:=ha.h) (hb:=hb.h) (hm:=hm)⟩
&lV {X:Cx}{a:Expr}{fa:En->Rs T}{pos:Pos}(ha:QE X a fa):QE X (Expr.UnaryOp UnaryOp.USub a pos) (o1 kO fa):=
 ⟨q_neg (ha:=ha.h)⟩
&qK {X:Cx}{a b c:Expr}{fa fb fc:En->Rs T}{pos:Pos}{op op':CmpOp}{g g':T->T->Rs T}(ho:OpT X (compareOp op) g)(ho':OpT X (compareOp op') g')(ha:QE X a fa)(hb:QE X b fb)(hc:QE X c fc)(hm:lastMarks [op,op'] [b,c] =false:=by with_unfolding_all rfl):QE X (Expr.Compare a [op,op'] [b,c] pos) (ch g g' fa fb fc):=
 ⟨q_chain (ho:=ho) (ho':=ho') (ha:=ha.h) (hb:=hb.h) (hc:=hc.h) (hm:=hm)⟩
&ca {X:Cx}{e:Expr}{f:En->Rs T}(h:QE X e f)(he:∀ (whole:Sem Value),PySem.isTrue e (Cx.env X) whole=(do let v <-whole;standAt (Expr.pos e);holding [v] (truthy v)):=by intro _;rfl):QT X e (tb f):=
 ⟨qt_val (h:=h.h) (he:=he)⟩
&aR {X:Cx}{a b:Expr}{fa fb:En->Rs T}{pos:Pos}{op:CmpOp}{g:T->T->Rs T}(ho:OpT X (compareOp op) g)(ha:QE X a fa)(hb:QE X b fb)(hm:behindInMarks op b=false:=by rfl):QT X (Expr.Compare a [op] [b] pos) (tb (o2 g fa fb)):=
 ⟨qt_cmp (ho:=ho) (ha:=ha.h) (hb:=hb.h) (hm:=hm)⟩
&vc {X:Cx}{a b c:Expr}{fa fb fc:En->Rs T}{pos:Pos}{op op':CmpOp}{g g':T->T->Rs T}(ho:OpT X (compareOp op) g)(ho':OpT X (compareOp op') g')(ha:QE X a fa)(hb:QE X b fb)(hc:QE X c fc)(hm:lastMarks [op,op'] [b,c] =false:=by with_unfolding_all rfl):QT X (Expr.Compare a [op,op'] [b,c] pos) (tb (ch g g' fa fb fc)):=
 ⟨w8 (ho:=ho) (ho':=ho') (ha:=ha.h) (hb:=hb.h) (hc:=hc.h) (hm:=hm)⟩
&lT {X:Cx}{a:Expr}{pos:Pos}{f:En->Rs Bool}(ha:QT X a f):QW X (Expr.BoolOp BoolOp.And [a] pos) f:=
 ⟨qw_and1 (ha:=ha.h)⟩
&dU {X:Cx}{a:Expr}{pos:Pos}{f:En->Rs Bool}(ha:QT X a f):QW X (Expr.BoolOp BoolOp.Or [a] pos) f:=
 ⟨qw_or1 (ha:=ha.h)⟩
&pf {X:Cx}{a b:Expr}{pos:Pos}{f g:En->Rs Bool}{cL:List Expr}(ha:QT X a f)(hb:QW X (Expr.BoolOp BoolOp.And (b::cL) pos) g):QW X (Expr.BoolOp BoolOp.And (a::b::cL) pos) (jT f g):=
 ⟨qw_and (ha:=ha.h) (hb:=hb.h)⟩
&fA {X:Cx}{a b:Expr}{pos:Pos}{f g:En->Rs Bool}{cL:List Expr}(ha:QT X a f)(hb:QW X (Expr.BoolOp BoolOp.Or (b::cL) pos) g):QW X (Expr.BoolOp BoolOp.Or (a::b::cL) pos) (kF f g):=
 ⟨qw_or (ha:=ha.h) (hb:=hb.h)⟩
&gn {X:Cx}{f:En->Rs Bool}{e:Expr}(h:QW X e f):QT X e f:=
 ⟨qt_w (h:=h.h)⟩
&cH {X:Cx}{a:Expr}{pos:Pos}{f:En->Rs Bool}(ha:QT X a f):QT X (Expr.UnaryOp UnaryOp.Not a pos) (du f):=
 ⟨qt_not (ha:=ha.h)⟩
&dL {X:Cx}{a:Expr}{fa:En->Rs T}{pos:Pos}{op:BoolOp}(h:QE X a fa):QE X (Expr.BoolOp op [a] pos) fa:=
 ⟨q_one (h:=h.h)⟩
&cV {X:Cx}{a b:Expr}{fa fb:En->Rs T}{pos:Pos}{cL:List Expr}(ha:QE X a fa)(hb:QE X (Expr.BoolOp BoolOp.And (b::cL) pos) fb):QE X (Expr.BoolOp BoolOp.And (a::b::cL) pos) (cY fa fb):=
 ⟨q_and (ha:=ha.h) (hb:=hb.h)⟩
&zq_or {X:Cx}{a b:Expr}{fa fb:En->Rs T}{pos:Pos}{cL:List Expr}(ha:QE X a fa)(hb:QE X (Expr.BoolOp BoolOp.Or (b::cL) pos) fb):QE X (Expr.BoolOp BoolOp.Or (a::b::cL) pos) (orV fa fb):=
 ⟨q_or (ha:=ha.h) (hb:=hb.h)⟩
&zq_not {X:Cx}{a:Expr}{fa:En->Rs T}{pos:Pos}(ha:QE X a fa):QE X (Expr.UnaryOp UnaryOp.Not a pos) (o1 notV fa):=
 ⟨q_not (ha:=ha.h)⟩
&zq_if {X:Cx}{a b c:Expr}{fa fb:En->Rs T}{pos:Pos}{f:En->Rs Bool}(hc:QT X c f)(ha:QE X a fa)(hb:QE X b fb):QE X (Expr.IfExp c a b pos) (ifE f fa fb):=
 ⟨q_if (hc:=hc.h) (ha:=ha.h) (hb:=hb.h)⟩
&aA {X:Cx}{a b:Expr}{fa fb:En->Rs T}{pos:Pos}(ha:QE X a fa)(hb:QE X b fb)(hs:jw b:=by intro _ _;rfl):QE X (Expr.Subscript a b pos) (o2 aN fa fb):=
 ⟨q_ix (ha:=ha.h) (hb:=hb.h) (hs:=hs)⟩
&dy {X:Cx}:QO X none pN:=
 ⟨qp_none ⟩
&dw {X:Cx}{a:Expr}{fa:En->Rs T}(ha:QE X a fa):QO X (some a) (pS fa):=
 ⟨qp_some (ha:=ha.h)⟩
&dz {X:Cx}{a:Expr}{fa:En->Rs T}{pos:Pos}{lo hi:Option Expr}{p2:Pos}{fl fu:En->Rs (Option Int)}(ha:QE X a fa)(hl:QO X lo fl)(hu:QO X hi fu):QE X (Expr.Subscript a (Expr.Slice lo hi none p2) pos) (sl fa fl fu):=
 ⟨q_slice (ha:=ha.h) (hl:=hl.h) (hu:=hu.h)⟩
&zq_rev {X:Cx}{a:Expr}{fa:En->Rs T}{pos:Pos}{j:Nat}{p1 p2 p3:Pos}(ha:QE X a fa):QE X (Expr.Subscript a (Expr.Slice none none (some (Expr.UnaryOp UnaryOp.USub (Expr.Constant (Const.int 1) j p1) p2)) p3) pos) (o1 wZ fa):=
 ⟨q_rev (ha:=ha.h)⟩
&bP {X:Cx}{e:Expr}{es:List Expr}{fs:En->Rs (List T)}{pos p:Pos}{x:Str}{id:String}{g:List T->Rs T}(hc:CallT X (Value.builtin id) g)(hm:Cx.mg X x=none)(hv:bootBuiltins x=some (Value.builtin id))(ha:QA X (e::es) fs)(hn:bM (e::es)=true:=by rfl)(hg:Gl X x:=by rfl)(h1:x≠Str.ofString "__name__":=by decide)(h2:(x == Str.ofString "__debug__")=false:=by decide):QE X (Expr.Call (Expr.Name x p) (e::es) [] pos) (cl g fs):=
 ⟨q_cB (hc:=hc) (hm:=hm) (hv:=hv) (ha:=ha.h) (hn:=hn) (hg:=hg) (h1:=h1) (h2:=h2)⟩
&tX {X:Cx}{e:Expr}{es:List Expr}{fs:En->Rs (List T)}{pos p:Pos}{x:Str}{Ty:String}{g:List T->Rs T}(hc:CallT X (Value.type Ty) g)(hm:Cx.mg X x=none)(hv:bootBuiltins x=some (Value.type Ty))(ha:QA X (e::es) fs)(hn:bM (e::es)=true:=by rfl)(hg:Gl X x:=by rfl)(h1:x≠Str.ofString "__name__":=by decide)(h2:(x == Str.ofString "__debug__")=false:=by decide):QE X (Expr.Call (Expr.Name x p) (e::es) [] pos) (cl g fs):=
 ⟨q_cT (hc:=hc) (hm:=hm) (hv:=hv) (ha:=ha.h) (hn:=hn) (hg:=hg) (h1:=h1) (h2:=h2)⟩
&zq_c {X:Cx}{e:Expr}{es:List Expr}{fs:En->Rs (List T)}{pos p:Pos}{x:Str}{n k:Nat}{f:Addr}{fd:FuncData}{ps:List Str}{g:List T->Rs T}(F:zd (Cx.prog X) (Cx.w X) (Cx.K X) (Cx.mg X) (Cx.base X) k f fd ps n g)(hr:Room k (Cx.A X))(hm:Cx.mg X x=some (Value.ref f))(hk:W.keepIn (Cx.K X) (Value.ref f)=true)(hb:L2.Binds (Cx.K X) fd ps [])(hl:∀ (ρ:En) (ts:List T),fs ρ=Rs.ok ts->List.length ts=n)(ha:QA X (e::es) fs)(hps:List.length ps=n:=by rfl)(hn:bM (e::es)=true:=by rfl)(hg:Gl X x:=by rfl)(h2:(x == Str.ofString "__debug__")=false:=by decide):QE X (Expr.Call (Expr.Name x p) (e::es) [] pos) (cl g fs):=
 ⟨q_c (F:=F) (hr:=hr) (hm:=hm) (hk:=hk) (hb:=hb) (hl:=hl) (ha:=ha.h) (hps:=hps) (hn:=hn) (hg:=hg) (h2:=h2)⟩
&lW {X:Cx}{a:Expr}{fa:En->Rs T}{pos p p2:Pos}{tn:Str}{Ty:String}(hm:Cx.mg X (Str.ofString "isinstance")=none)(hmt:Cx.mg X tn=none)(hv:bootBuiltins tn=some (Value.type Ty))(ha:QE X a fa)(hn:bx a=true:=by rfl)(hg:Gl X (Str.ofString "isinstance"):=by rfl)(hgt:Gl X tn:=by rfl)(h1:tn≠Str.ofString "__name__":=by decide)(h2:(tn == Str.ofString "__debug__")=false:=by decide):QE X (Expr.Call (Expr.Name (Str.ofString "isinstance") p) [a,Expr.Name tn p2] [] pos) (o1 (nS Ty) fa):=
 ⟨q_is (hm:=hm) (hmt:=hmt) (hv:=hv) (ha:=ha.h) (hn:=hn) (hg:=hg) (hgt:=hgt) (h1:=h1) (h2:=h2)⟩
&ai {X:Cx}{pos:Pos}{x:Str}(i:Nat)(hN:List.Nodup (Cx.N X))(hi:(Cx.N X)[i]? =some x:=by rfl)(hx:L2.Loc (Env.scope (Cx.env X)) x:=by first | #Or.inl rfl | #Or.inr rfl)(hf:Cx.fn X x=true\/List.lookup x (Scope.names (Env.scope (Cx.env X)))=some NameKind.local:=by first | #.inl rfl | #.inr rfl | assumption):QG X (Expr.Name x pos) (gN i):=
 ⟨qg_name (i:=i) (hN:=hN) (hi:=hi) (hx:=hx) (hf:=hf)⟩
&c9 {X:Cx}:QGs X [] lm:=
 ⟨qgs_nil ⟩
&aK {X:Cx}{e:Expr}{es:List Expr}{g:T->En->Rs En}{gs:List T->En->Rs En}(h1:QG X e g)(h2:QGs X es gs)(hs:List.map (fun x=>Prod.snd x) (assignEach (e::es) (Cx.env X))=assign e (Cx.env X)::List.map (fun x=>Prod.snd x) (assignEach es (Cx.env X)):=by rfl):QGs X (e::es) (dO g gs):=
 ⟨xf (h1:=h1.h) (h2:=h2.h) (hs:=hs)⟩
&dW {X:Cx}{es:List Expr}{pos:Pos}{k n:Nat}{gs:List T->En->Rs En}(hc:Cx.calm X=true)(h:QGs X es gs)(hn:List.length (assignEach es (Cx.env X))=n:=by rfl)(hst:List.findIdx? (fun x=>Prod.fst x) (assignEach es (Cx.env X))=none:=by rfl):QG X (Expr.Tuple es k pos) (gT n gs):=
 ⟨qg_tup (hc:=hc) (h:=h.h) (hn:=hn) (hst:=hst)⟩
&cv {X:Cx}{a:Expr}{fs:En->Rs (List T)}{pos p:Pos}{tg:Expr}(hm:Cx.mg X (Str.ofString "range")=none)(ha:QA X [a] fs)(hg:Gl X (Str.ofString "range"):=by rfl)(hs:starEach [a] (Cx.env X)= [(false,eval a (Cx.env X))]:=by rfl):QI X tg (Expr.Call (Expr.Name (Str.ofString "range") p) [a] [] pos) (iR fs):=
 ⟨vq (hm:=hm) (ha:=ha.h) (hg:=hg) (hs:=hs)⟩
&jK {X:Cx}{a b:Expr}{fs:En->Rs (List T)}{pos p:Pos}{tg:Expr}(hm:Cx.mg X (Str.ofString "range")=none)(ha:QA X [a,b] fs)(hg:Gl X (Str.ofString "range"):=by rfl)(hs:starEach [a,b] (Cx.env X)= [(false,eval a (Cx.env X)),(false,eval b (Cx.env X))]:=by rfl)(hs2:starEach [b] (Cx.env X)= [(false,eval b (Cx.env X))]:=by rfl):QI X tg (Expr.Call (Expr.Name (Str.ofString "range") p) [a,b] [] pos) (iR fs):=
 ⟨vp (hm:=hm) (ha:=ha.h) (hg:=hg) (hs:=hs) (hs2:=hs2)⟩
&bH {X:Cx}:QIf X [] bT:=
 ⟨qif_nil ⟩
&jY {X:Cx}{c:Expr}{f:En->Rs Bool}(h:QT X c f):QIf X [c] f:=
 ⟨qif_one (h:=h.h)⟩
&dP {X:Cx}{pos:Pos}{elt tg iter:Expr}{ifs:List Expr}{scope:Scope}{N':List Str}{src:List (Option Nat)}{fi:En->Rs (List T)}{tgt:T->En->Rs En}{fc:En->Rs Bool}{fe:En->Rs T}(hc:Cx.calm X=true)(S:LcScope X scope N' src)(hi:QI X tg iter fi)(block:∀ (cl:List (Str×Addr)) (C:Addr) (s₀:Shared) (H₀:Hp) (fp:List Addr),QG (bW X scope cl N' C s₀ H₀ fp) tg tgt/\QIf (bW X scope cl N' C s₀ H₀ fp) ifs fc/\QE (bW X scope cl N' C s₀ H₀ fp) elt fe)(hs:∀ (x:Value),foldedSetIterable iter (Cx.env X) x=pure x:=by intro _;rfl):QE X (Expr.ListComp elt [{ target:=tg,iter:=iter,ifs:=ifs,is_async:=0 }] scope pos) (dv fi src tgt fc fe):=
 ⟨q_lc (hc:=hc) (S:=S) (hi:=hi.h) (block:=fun a1 a2 a3 a4 a5=>⟨(block a1 a2 a3 a4 a5).1.h,(block a1 a2 a3 a4 a5).2.1.h,(block a1 a2 a3 a4 a5).2.2.h⟩) (hs:=hs)⟩
&a9 {X:Cx}:yZ X [] sN:=
 ⟨qs_nil ⟩
&ak {X:Cx}{st:Stmt}{cL:List Stmt}{F G:En->Rs Fl}(h1:QS X st F)(h2:yZ X cL G):yZ X (st::cL) (ax F G):=
 ⟨qs_cons (h1:=h1.h) (h2:=h2.h)⟩
&ao {X:Cx}{st:Stmt}{F:En->Rs Fl}(h:QS X st F):yZ X [st] F:=
 ⟨qs_one (h:=h.h)⟩
&ay {X:Cx}{a:Expr}{fa:En->Rs T}{pos:Pos}(ha:QE X a fa):QS X (Stmt.Return (some a) pos) (aL fa):=
 ⟨qs_ret (ha:=ha.h)⟩
&bu {X:Cx}{c:Expr}{pos:Pos}{f:En->Rs Bool}{A B:List Stmt}{F G:En->Rs Fl}(hc:QT X c f)(ha:yZ X A F)(hb:yZ X B G):QS X (Stmt.If c A B pos) (eI f F G):=
 ⟨qs_if (hc:=hc.h) (ha:=ha.h) (hb:=hb.h)⟩
&wu {X:Cx}{pos:Pos}{elt tg iter:Expr}{ifs:List Expr}{scope:Scope}{spos py:Pos}{N':List Str}{src:List (Option Nat)}{fi:En->Rs (List T)}{tgt:T->En->Rs En}{fc:En->Rs Bool}{fe:En->Rs T}(i:Nat){y:Str}(hc:Cx.calm X=true)(S:LcScope X scope N' src)(hi:QI X tg iter fi)(block:∀ (cl:List (Str×Addr)) (C:Addr) (s₀:Shared) (H₀:Hp) (fp:List Addr),QG (bW X scope cl N' C s₀ H₀ fp) tg tgt/\QIf (bW X scope cl N' C s₀ H₀ fp) ifs fc/\QE (bW X scope cl N' C s₀ H₀ fp) elt fe)(hN:List.Nodup (Cx.N X))(hiy:(Cx.N X)[i]? =some y:=by rfl)(hy:L2.Loc (Env.scope (Cx.env X)) y:=by first | #Or.inl rfl | #Or.inr rfl)(hsw:swapsWith (Expr.ListComp elt [{ target:=tg,iter:=iter,ifs:=ifs,is_async:=0 }] scope pos) (some (Expr.Name y py)) (Pos.line spos) (Cx.env X)=pure true:=by rfl)(hf:Cx.fn X y=true\/List.lookup y (Scope.names (Env.scope (Cx.env X)))=some NameKind.local:=by first | #.inl rfl | #.inr rfl | assumption)(hs:∀ (x:Value),foldedSetIterable iter (Cx.env X) x=pure x:=by intro _;rfl):QS X (Stmt.Assign [Expr.Name y py] (Expr.ListComp elt [{ target:=tg,iter:=iter,ifs:=ifs,is_async:=0 }] scope pos) spos) (bQ (dv fi src tgt fc fe) (gN i)):=
 ⟨qs_lc (i:=i) (hc:=hc) (S:=S) (hi:=hi.h) (block:=fun a1 a2 a3 a4 a5=>⟨(block a1 a2 a3 a4 a5).1.h,(block a1 a2 a3 a4 a5).2.1.h,(block a1 a2 a3 a4 a5).2.2.h⟩) (hN:=hN) (hiy:=hiy) (hy:=hy) (hsw:=hsw) (hf:=hf) (hs:=hs)⟩
&aB {X:Cx}{a:Expr}{fa:En->Rs T}{pos:Pos}{tg:Expr}{g:T->En->Rs En}(ha:QE X a fa)(hg:QG X tg g)(hs:swapsWithSole [tg] a (Pos.line pos) (Cx.env X)=pure false:=by rfl)(hw:swappedStores [tg] a (Cx.env X)=pure none:=by rfl)(h1:List.map (fun x=>Prod.snd x) (assignEach [tg] (Cx.env X))= [assign tg (Cx.env X)]:=by rfl):QS X (Stmt.Assign [tg] a pos) (bQ fa g):=
 ⟨qs_asg (ha:=ha.h) (hg:=hg.h) (hs:=hs) (hw:=hw) (h1:=h1)⟩
&qI {X:Cx}{a:Expr}{fa:En->Rs T}{pos:Pos}(ha:QE X a fa)(hs:swapsWith a none (Pos.line pos) (Cx.env X)=pure false:=by rfl):QS X (Stmt.Expr a pos) (sEx fa):=
 ⟨qs_expr (ha:=ha.h) (hs:=hs)⟩
&bO {X:Cx}{pos:Pos}{tg iter:Expr}{body:List Stmt}{fi:En->Rs (List T)}{g:T->En->Rs En}{F:En->Rs Fl}(hc:Cx.calm X=true)(hi:QI X tg iter fi)(hg:QG (Cx.nox X) tg g)(hb:yZ (Cx.nox X) body F)(hs:∀ (x:Value),foldedSetIterable iter (Cx.env X) x=pure x:=by intro _;rfl):QS X (Stmt.For tg iter body [] pos) (dA fi g F):=
 ⟨qs_for (hc:=hc) (hi:=hi.h) (hg:=hg.h) (hb:=hb.h) (hs:=hs)⟩
&oo {X:Cx}{pos:Pos}{c:Expr}{body:List Stmt}{fc:En->Rs Bool}{F:En->Rs Fl}(n:Nat)(hc:QT (Cx.nox X) c fc)(hb:yZ (Cx.nox X) body F):QS X (Stmt.While c body [] pos) (bv fc F n):=
 ⟨w9 (n:=n) (hc:=hc.h) (hb:=hb.h)⟩
&bj {X:Cx}{a:Expr}{fa:En->Rs T}{tg:Expr}(ha:QE X a fa):QI X tg a (iS fa):=
 ⟨qi_seq (ha:=ha.h)⟩
&ir {X:Cx}{a:Expr}{fs:En->Rs (List T)}{p pos:Pos}{elts:List Expr}{kk:Nat}{tpos:Pos}(hm:Cx.mg X (Str.ofString "enumerate")=none)(ha:QA X [a] fs)(hg:Gl X (Str.ofString "enumerate"):=by rfl)(hs:starEach [a] (Cx.env X)= [(false,eval a (Cx.env X))]:=by rfl):QI X (Expr.Tuple elts kk tpos) (Expr.Call (Expr.Name (Str.ofString "enumerate") p) [a] [] pos) (iE fs):=
 ⟨qi_enum (hm:=hm) (ha:=ha.h) (hg:=hg) (hs:=hs)⟩
&iq {X:Cx}{es:List Expr}{pos p2 p3:Pos}{x:Str}(i:Nat){f:En->Rs (List T)}(hN:List.Nodup (Cx.N X))(ha:QA X es f)(hi:(Cx.N X)[i]? =some x:=by rfl)(hx:L2.Loc (Env.scope (Cx.env X)) x:=by first | #Or.inl rfl | #Or.inr rfl)(hs:swapsWith (Expr.List es p2) (some (Expr.Name x p3)) (Pos.line pos) (Cx.env X)=pure false:=by rfl)(hf:Cx.fn X x=true\/List.lookup x (Scope.names (Env.scope (Cx.env X)))=some NameKind.local:=by first | #.inl rfl | #.inr rfl | assumption):QS X (Stmt.Assign [Expr.Name x p3] (Expr.List es p2) pos) (iF i f):=
 ⟨qs_newL (i:=i) (hN:=hN) (ha:=ha.h) (hi:=hi) (hx:=hx) (hs:=hs) (hf:=hf)⟩
&gU {X:Cx}{a:Expr}{fa:En->Rs T}{pos p2:Pos}{x:Str}(i:Nat){apos cpos:Pos}(ha:QE X a fa)(hN:(Cx.N X)[i]? =some x:=by rfl)(hv:qH (Env.scope (Cx.env X)) x:=by first | #Or.inl rfl | #Or.inr (Or.inl rfl) | #Or.inr (Or.inr rfl))(hn:bx a=true:=by rfl)(hbase:attributeBase (Expr.Name x p2) (Str.ofString "append") (Cx.env X) (eval (Expr.Name x p2) (Cx.env X))=eval (Expr.Name x p2) (Cx.env X):=by rfl)(hline:(Pos.endLine apos == Pos.line cpos)=true:=by rfl)(hd:(x == Str.ofString "__debug__")=false:=by decide)(hcd:(x == Str.ofString "__classdict__")=false:=by decide)(hsw:swapsWith (Expr.Call (Expr.Attribute (Expr.Name x p2) (Str.ofString "append") apos) [a] [] cpos) none (Pos.line pos) (Cx.env X)=pure false:=by rfl):QS X (Stmt.Expr (Expr.Call (Expr.Attribute (Expr.Name x p2) (Str.ofString "append") apos) [a] [] cpos) pos) (ip i fa):=
 ⟨qs_app (i:=i) (ha:=ha.h) (hN:=hN) (hv:=hv) (hn:=hn) (hbase:=hbase) (hline:=hline) (hd:=hd) (hcd:=hcd) (hsw:=hsw)⟩
&ph {X:Cx}{a:Expr}{fa:En->Rs T}{pos p2:Pos}{x:Str}(i:Nat){apos cpos:Pos}(ha:QE X a fa)(hN:(Cx.N X)[i]? =some x:=by rfl)(hv:qH (Env.scope (Cx.env X)) x:=by first | #Or.inl rfl | #Or.inr (Or.inl rfl) | #Or.inr (Or.inr rfl))(hn:bx a=true:=by rfl)(hbase:attributeBase (Expr.Name x p2) (Str.ofString "extend") (Cx.env X) (eval (Expr.Name x p2) (Cx.env X))=eval (Expr.Name x p2) (Cx.env X):=by rfl)(hline:(Pos.endLine apos == Pos.line cpos)=true:=by rfl)(hd:(x == Str.ofString "__debug__")=false:=by decide)(hcd:(x == Str.ofString "__classdict__")=false:=by decide)(hsw:swapsWith (Expr.Call (Expr.Attribute (Expr.Name x p2) (Str.ofString "extend") apos) [a] [] cpos) none (Pos.line pos) (Cx.env X)=pure false:=by rfl):QS X (Stmt.Expr (Expr.Call (Expr.Attribute (Expr.Name x p2) (Str.ofString "extend") apos) [a] [] cpos) pos) (mn i fa):=
 ⟨qs_ext (i:=i) (ha:=ha.h) (hN:=hN) (hv:=hv) (hn:=hn) (hbase:=hbase) (hline:=hline) (hd:=hd) (hcd:=hcd) (hsw:=hsw)⟩
&gS {X:Cx}(i:Nat){st:Stmt}{F:En->Rs Fl}(h:QS X st F):QS X st (lx i F):=
 ⟨qs_dis (i:=i) (h:=h.h)⟩
&jZ {X:Cx}(i:Nat){e:Expr}{f:En->Rs T}(h:QE X e f):QE X e (ln i f):=
 ⟨q_ln (i:=i) (h:=h.h)⟩
&zqt_ln {X:Cx}(i:Nat){e:Expr}{f:En->Rs Bool}(h:QT X e f):QT X e (lnB i f):=
 ⟨qt_ln (i:=i) (h:=h.h)⟩
&zq_sel {X:Cx}{n:Nat}{es args:List Expr}{a0 i0:Expr}{p1 p2 pos:Pos}{as:List Addr}{gs:List (List T->Rs T)}{f0:En->Rs T}{fs:En->Rs (List T)}(S:Sels X n es as gs)(h0:QE X i0 f0)(hl:∀ (ρ:En) (ts:List T),fs ρ=Rs.ok ts->List.length ts=n)(ha:QA X (a0::args) fs)(hn:bM (a0::args)=true:=by rfl)(hs:jw i0:=by intro _ _;rfl)(hz:List.length es<=100:=by decide):QE X (Expr.Call (Expr.Subscript (Expr.List es p1) i0 p2) (a0::args) [] pos) (vk gs f0 fs):=
 ⟨q_sel (S:=S) (h0:=h0.h) (hl:=hl) (ha:=ha.h) (hn:=hn) (hs:=hs) (hz:=hz)⟩
&zqs_ct {X:Cx}{pos:Pos}:QS X (Stmt.Continue pos) sCt:=
 ⟨qs_ct ⟩
&vd {X:Cx}{c:Str}{msg:Str}{C:Addr}{bm:List Value}{np p1 cpos pos:Pos}{j:Nat}(O:OX X.K C bm)(hm:X.mg c=some (.ref C))(hc:X.calm=true:=by rfl)(hg:Gl X c:=by rfl)(hd:(c == ("__debug__" : Str))=false:=by decide) :
  QS X (.Raise (some (.Call (.Name c np) [.Constant (.str msg) j p1] [] cpos)) none pos) (sErr c):=⟨xb O.own hc hm hg hd⟩
&zqs_try {X:Cx}{body suite:List Stmt}{b0:Stmt}{F:En->Rs Fl}{h:Str->Rs T}{ce n:Str}{CE:Addr}{bmE:List Value}(i:Nat){np hpos pos:Pos}(hN:X.N.Nodup)(hm:X.mg ce=some (.ref CE))(OE:OX X.K CE bmE)
  (hb:∀ pn xe,yZ { X with pn:=pn,xe:=xe } body F) (hs:qD X i (b0::suite) CE h) (hst:X.stack=X.env::X.outer:=by rfl) (hfe:X.env.frame=some X.env.locals:=by rfl) (hcl:∀ x c,X.env.cells.lookup x≠some c) (hex:X.ex= []:=by rfl)
  (hi:X.N[i]? =some n:=by rfl) (hloc:X.env.scope.names.lookup n=some .local:=by rfl) (hg:Gl X ce:=by rfl) (hd:(ce == ("__debug__" : Str))=false:=by decide) :
  QS X (.Try body [.ExceptHandler (some (.Name ce np)) (some n) (b0::suite) hpos] [] [] pos) (re F h):=⟨qs_try hst hfe hcl hex hN hi hloc hm OE (fun pn xe=>(hb pn xe).h) hs hg hd⟩
&tY {P:Program}{w:World}{K:PySem.W.Frag}{mg:Str->Option Value}{base:Heap}{x qual:Str}{st:Stmt}{f:Addr}{fd:FuncData}{N ps:List Str}{k n:Nat}{F:En->Rs Fl}(Fn:L2.Fun K x qual st f fd)(S:aE N ps (aj st))(hn:ps.length=n)
  (hbody:∀ (cdv:Value) (A:Around) (outer:List Env) (s:Shared) (H:Hp) (E:XK),Room k (A.deeper (envOfC qual (aj st) s.heap.objs.size f cdv)) →
   ∀xe,yZ ((kA CX0 P w K mg base N qual (aj st) f cdv A outer s H E).wish xe) (cO st) F):zd P w K mg base (k+1) f fd ps n (val n N.length F):=fnb_ok Fn S hn fun cdv A outer s H E hr xe=>(hbody cdv A outer s H E hr xe).h
&cU {X:Cx}{a b:Expr}{fa fb:En->Rs T}{pos:Pos}(hu:Around.units (Cx.A X)+1<cLine)(ha:QE X a fa)(hb:QE X b fb)(hs:wf b:=by intro _ _;rfl):QE X (Expr.Subscript a b pos) (o2 bD fa fb):=
 ⟨q_dix (hu:=hu) (ha:=ha.h) (hb:=hb.h) (hs:=hs)⟩
&tW {X:Cx}{a b:Expr}{fa fb:En->Rs T}{apos cpos:Pos}(hu:Around.units (Cx.A X)+1<cLine)(ha:QE X a fa)(hb:QE X b fb)(hn:bx b=true:=by rfl)(hbase:attributeBase a (Str.ofString "get") (Cx.env X) (eval a (Cx.env X))=eval a (Cx.env X):=by rfl)(hline:(Pos.endLine apos == Pos.line cpos)=true:=by rfl):QE X (Expr.Call (Expr.Attribute a (Str.ofString "get") apos) [b] [] cpos) (oD im fa fb):=
 ⟨q_dget (hu:=hu) (ha:=ha.h) (hb:=hb.h) (hn:=hn) (hbase:=hbase) (hline:=hline)⟩
&vf {X:Cx}{a b:Expr}{fa fb:En->Rs T}{apos cpos:Pos}(hu:Around.units (Cx.A X)+61<cLine)(ha:QE X a fa)(hb:QE X b fb)(hn:bx b=true:=by rfl)(hbase:attributeBase a (Str.ofString "index") (Cx.env X) (eval a (Cx.env X))=eval a (Cx.env X):=by rfl)(hline:(Pos.endLine apos == Pos.line cpos)=true:=by rfl):QE X (Expr.Call (Expr.Attribute a (Str.ofString "index") apos) [b] [] cpos) (oL gt fa fb):=
 ⟨xg (hu:=hu) (ha:=ha.h) (hb:=hb.h) (hn:=hn) (hbase:=hbase) (hline:=hline)⟩
&wt {X:Cx}{e:Expr}{f:En->Rs T}{x:Str}{p pos p2 p3:Pos}(i:Nat)(hu:Around.units (Cx.A X)+8<cLine)(hc:Cx.calm X=true)(hm:Cx.mg X (Str.ofString "dict")=none)(hN:List.Nodup (Cx.N X))(ha:QE X e f)(hst:bx e=true:=by rfl)(hg:Gl X (Str.ofString "dict"):=by rfl)(hi:(Cx.N X)[i]? =some x:=by rfl)(hx:L2.Loc (Env.scope (Cx.env X)) x:=by first | #Or.inl rfl | #Or.inr rfl)(hs:swapsWith (Expr.Call (Expr.Name (Str.ofString "dict") p) [e] [] p2) (some (Expr.Name x p3)) (Pos.line pos) (Cx.env X)=pure false:=by rfl)(hf:Cx.fn X x=true\/List.lookup x (Scope.names (Env.scope (Cx.env X)))=some NameKind.local:=by first | #.inl rfl | #.inr rfl | assumption):QS X (Stmt.Assign [Expr.Name x p3] (Expr.Call (Expr.Name (Str.ofString "dict") p) [e] [] p2) pos) (oC i f):=
 ⟨qs_newD (i:=i) (hu:=hu) (hc:=hc) (hm:=hm) (hN:=hN) (ha:=ha.h) (hst:=hst) (hg:=hg) (hi:=hi) (hx:=hx) (hs:=hs) (hf:=hf)⟩
&zqs_put {X:Cx}{b c:Expr}{fb fc:En->Rs T}{pos p2 p3:Pos}{x:Str}(i:Nat)(hu:Around.units (Cx.A X)+1<cLine)(hb:QE X b fb)(hc:QE X c fc)(hN:(Cx.N X)[i]? =some x:=by rfl)(hv:qH (Env.scope (Cx.env X)) x:=by first | #Or.inl rfl | #Or.inr (Or.inl rfl) | #Or.inr (Or.inr rfl))(hd:(x == Str.ofString "__debug__")=false:=by decide)(hcd:(x == Str.ofString "__classdict__")=false:=by decide)(hs:swapsWith c (some (Expr.Subscript (Expr.Name x p2) b p3)) (Pos.line pos) (Cx.env X)=pure false:=by rfl):QS X (Stmt.Assign [Expr.Subscript (Expr.Name x p2) b p3] c pos) (vo i fb fc):=
 ⟨qs_put (i:=i) (hu:=hu) (hb:=hb.h) (hc:=hc.h) (hN:=hN) (hv:=hv) (hd:=hd) (hcd:=hcd) (hs:=hs)⟩
&lU {X:Cx}{a b c:Expr}{fa fb fc:En->Rs T}{pos p2 p3 p4:Pos}{x:Str}(i:Nat)(hu:Around.units (Cx.A X)+1<cLine)(ha:QE X a fa)(hb:QE X b fb)(hc:QE X c fc)(hsl:wf a:=by intro _ _;rfl)(hN:(Cx.N X)[i]? =some x:=by rfl)(hv:qH (Env.scope (Cx.env X)) x:=by first | #Or.inl rfl | #Or.inr (Or.inl rfl) | #Or.inr (Or.inr rfl))(hd:(x == Str.ofString "__debug__")=false:=by decide)(hcd:(x == Str.ofString "__classdict__")=false:=by decide)(hs:swapsWith c (some (Expr.Subscript (Expr.Subscript (Expr.Name x p2) a p3) b p4)) (Pos.line pos) (Cx.env X)=pure false:=by rfl):QS X (Stmt.Assign [Expr.Subscript (Expr.Subscript (Expr.Name x p2) a p3) b p4] c pos) (ii i fa fb fc):=
 ⟨qs_put2 (i:=i) (hu:=hu) (ha:=ha.h) (hb:=hb.h) (hc:=hc.h) (hsl:=hsl) (hN:=hN) (hv:=hv) (hd:=hd) (hcd:=hcd) (hs:=hs)⟩
end Tr
namespace Tr
open PySem PySem.Spec L2
&LcScope.byN {X:Cx}{scope:Scope}{N N':List Str}{src:List (Option Nat)}(hN:X.N=N)(hk:scope.kind= .function)(h:lcOk scope.names N scope.names N' src=true)
  (hf:(scope.names.all fun y=>y.2 != .free||(X.env.scope.names.lookup y.1 == some .cell||X.env.scope.names.lookup y.1 == some .free))=true):LcScope X scope N' src:=by
 have z:=LcScope.by (X:={ X with env:={ X.env with scope:=scope } }) hN rfl hk h
 &⟨hk,z.cel,z.loc,z.len,z.from_,fun x hx=> ?_⟩
 have:=List.all_eq_true.mp hf _ hx
 simp only [bne_self_eq_false,Bool.false_or,Bool.or_eq_true]at this
 show X.env.scope.names.lookup x=_\/X.env.scope.names.lookup x=_
 rcases this with z | z
 ·#.inl (by simpa using z)
 ·#.inr (by simpa using z)
end Tr
namespace Tr
open PySem PySem.Spec PyProof.Rows L2 PySem.W
def yz (h:Heap):Frag:=(List.range h.objs.size).filterMap fun a=>(h.get? a).map fun o=>(a,o)
&yy (h:Heap):(yz h).In h:=by
 have key:∀ (l:List Nat) (a:Addr) (o:Obj),(l.filterMap fun a=>(h.get? a).map fun o=>(a,o)).lookup a=some o->h.get? a=some o:=by
  intro l
  induction l with
  | nil=>intro a o e;cases e
  | cons b r ih=>
   intro a o e
   cases hb:h.get? b with
   | none=>rw [List.filterMap_cons_none (by rw [hb];rfl)]at e;#ih a o e
   | some ob=>
    rw [List.filterMap_cons_some (b:=(b,ob)) (by rw [hb];rfl),List.lookup_cons]at e
    cases q:a == b with
    | true=>rw [q]at e;cases e;rw [eq_of_beq q];#hb
    | false=>rw [q]at e;#ih a o e
 #fun a o e=>key _ a o e
def obF (K:Frag)(n:Str):Option (Str×Str×Arguments×FuncBody×Scope×Addr×List (Str×Addr)×Value×Addr×Bool×Bool):=match nsIn K mainGlobals n with
 | some (some (.ref f))=>match K.lookup f with
  | some ⟨_,_,.func d,_⟩=>some (d.name,d.qualname,d.params,d.body,d.scope,d.globals,d.closure,d.defaults,d.builtins,codeIn K d.code n,keepIn K (.ref f))
  | _=>none
 | _=>none
def exF (n:Str)(st:Stmt):Option (Str×Str×Arguments×FuncBody×Scope×Addr×List (Str×Addr)×Value×Addr×Bool×Bool):=
 some (n,n,hY st,.stmts (cO st),aj st,mainGlobals,[],.none,builtinsNs,true,true)
&fn_at {K:Frag}{n:Str}{st:Stmt}(e:obF K n=exF n st):∃ f fd,nsIn K mainGlobals n=some (some (.ref f))/\L2.Fun K n n st f fd:=by
 unfold obF at e
 split at e
 ·rename_i f hf
  split at e
  ·rename_i oc od d sl hl
   cases d
   unfold exF at e
   simp only [Option.some.injEq,Prod.mk.injEq]at e
   &⟨h1,h2,h3,h4,h5,h6,h7,h8,h9,h10,h11⟩:=e
   subst h1 h2 h3 h4 h5 h6 h7 h8 h9
   #⟨f,_,hf,fun_mk hl h10 h11⟩
  ·cases e
 ·cases e
def obZ (K:Frag)(N:Addr)(n:Str):Bool:=match nsIn K N n with | some none=>true | _=>false
&mK {K:Frag}{N:Addr}{n:Str}(e:obZ K N n=true):nsIn K N n=some none:=by
 unfold obZ at e
 split at e
 ·assumption
 ·cases e
def obC (K:Frag)(n:Str):Option Int:=match nsIn K mainGlobals n with | some (some (.int i _))=>some i | _=>none
&obC_of {K:Frag}{n:Str}{i:Int}(e:obC K n=some i):∃ t,nsIn K mainGlobals n=some (some (.int i t)):=by
 unfold obC at e
 split at e
 ·rename_i i' t h;cases e;#⟨t,h⟩
 ·cases e
def t9:List Value->Bool
 | [.type a,.type b,.type c,.type d] =>a == "ValueError" &&b == "Exception" &&c == "BaseException" &&d == "object"
 | _=>false
&lY:∀ {l:List Value},t9 l=true->l=lH:=by
 intro l e
 unfold t9 at e
 split at e
 ·simp only [Bool.and_eq_true,beq_iff_eq]at e
  &⟨⟨⟨h1,h2⟩,h3⟩,h4⟩:=e
  subst h1 h2 h3 h4;rfl
 ·cases e
def wy (D:Option Addr)(m:List Value):Bool:=match D with
 | none=>t9 m
 | some D=>match m with
  | .ref E::m=>E == D&&t9 m
  | _=>false
def obX (K:Frag)(D:Option Addr)(n:Str):Option Addr:=match nsIn K mainGlobals n with
 | some (some (.ref C))=>match K.lookup C with
  | some ⟨.type t,_,.cls c,⟨[_,_,_,_,some (.builtin b),_]⟩⟩=>match c.mro,K.lookup c.ns with
   | .ref E::m,some ⟨_,_,.dict es _,_⟩=>
    if (t == "type" &&b == "ValueError.__new__" && !c.hasDel&&(es.toList.all fun e=>wO e.key)&&calmNames.all (obZ K c.ns)&&E == C&&wy D m)=true then some C else none
   | _,_=>none
  | _=>none
 | _=>none
&gE {K:Frag}{D:Option Addr}{n:Str}{C:Addr}(e:obX K D n=some C):nsIn K mainGlobals n=some (some (.ref C)) ∧
  ∃nm q N bs bm hd sn su ab co dd k0 k1 k2 k3 k5,wy D bm=true/\K.lookup C=some (excClassObj nm q C N bs bm hd sn su ab co dd k0 k1 k2 k3 k5 "ValueError.__new__")/\∀ h:Heap,K.In h->∃ mN,h.Ns N mN/\∀ n∈calmNames,mN n=none:=by
 unfold obX at e
 split at e
 ·rename_i C' hC
  split at e
  ·rename_i t dd c k0 k1 k2 k3 b k5 hl
   split at e
   ·rename_i E m ob oe es ep oz hm hN
    split at e
    ·rename_i hq
     cases e
     simp only [Bool.and_eq_true,beq_iff_eq,Bool.not_eq_true']at hq
     &⟨⟨⟨⟨⟨⟨h1,h2⟩,h3⟩,h4⟩,h5⟩,h6⟩,h7⟩:=hq
     have z:=List.all_eq_true.mp h5
     &⟨hC,c.name,c.qualname,c.ns,c.bases,m,c.hasDict,c.slotNames,c.subclasses,c.abstract,c.collection,dd,k0,k1,k2,k3,k5,h7,?_,ns_of hN h4 (mK (z _ (.head _))) (mK (z _ (.tail _ (.head _)))) (mK (z _ (.tail _ (.tail _ (.head _))))) (mK (z _ (.tail _ (.tail _ (.tail _ (.head _))))))⟩
     rw [hl]
     cases c
     simp only at hm h3
     subst h1 h2 hm h3 h6
     rfl
    ·cases e
   ·cases e
  ·cases e
 ·cases e
&ox0 {K:Frag}{C:Addr}{n:Str}(e:obX K none n=some C):OX K C lH:=by
 &⟨_,_,_,_,_,_,_,_,_,_,_,_,_,_,_,_,_,hu,hl,hn⟩:=gE e
 cases lY hu
 #ox_base hl hn
&ox1 {K:Frag}{C D:Addr}{n m:Str}(e:obX K (some D) n=some C)(d:obX K none m=some D):OX K C (.ref D::lH):=by
 &⟨_,_,_,_,_,bm,_,_,_,_,_,_,_,_,_,_,_,hu,hl,hn⟩:=gE e
 &⟨_,_,_,_,_,_,_,_,_,_,_,_,_,_,_,_,_,hu',hl',hn'⟩:=gE d
 cases lY hu'
 unfold wy at hu
 simp only at hu
 split at hu
 ·rw [Bool.and_eq_true]at hu
  cases eq_of_beq hu.1
  cases lY hu.2
  #xG hl hn hl' hn'
 ·cases hu
def tT {α:Type}:List (Option α)->Option (List α)
 | [] =>some []
 | none::_=>none
 | some a::r=>match tT r with | some l=>some (a::l) | none=>none
&fP {α:Type}{o:Option α}{r:List (Option α)}{l:List α}(e:tT (o::r)=some l):∃ a l',o=some a/\l=a::l'/\tT r=some l':=by
 cases o with
 | none=>cases e
 | some a=>
  unfold tT at e
  split at e
  ·rename_i l' h;cases e;#⟨a,l',rfl,rfl,h⟩
  ·cases e
&yV {α:Type}{l:List α}(e:tT ([]:List (Option α))=some l):l= []:=by cases e;rfl
def qc:List Addr->Bool
 | [] =>true
 | a::r=>(r.all fun b=> !(a == b))&&qc r
&oF:∀ {l:List Addr},qc l=true->l.Nodup
 | [],_=> .nil
 | a::r,h=>by
  unfold qc at h
  rw [Bool.and_eq_true]at h
  &List.nodup_cons.mpr ⟨fun hm=> ?_,oF h.2⟩
  have:=List.all_eq_true.mp h.1 a hm
  simp at this
def okX (K:Frag):List Str->Bool
 | [] =>true
 | m::es=>match obX K none m with
  | some D=>match tT (es.map (obX K (some D)))with | some l=>qc (l++ [D]) | none=>false
  | none=>false
&okX_of {K:Frag}{m:Str}{es:List Str}(e:okX K (m::es)=true):∃ D l,obX K none m=some D/\tT (es.map (obX K (some D)))=some l/\(l++ [D]).Nodup:=by
 rw [okX]at e
 split at e
 ·rename_i D hD
  split at e
  ·rename_i l hl;#⟨D,l,hD,hl,oF e⟩
  ·cases e
 ·cases e
structure wl where
 tab:List (Str×Nat)
 zs:List Str
 cs:List (Str×Int)
 es:List Str
def ol (S:wl)(K:Frag):=(S.tab.map (fun p=>obF K p.1),S.zs.all (obZ K mainGlobals),S.cs.map (fun c=>obC K c.1),okX K S.es)
def nU (S:wl)(top:Nat->Stmt):=(S.tab.map (fun p=>exF p.1 (top p.2)),true,S.cs.map (fun c=>some c.2),true)
def hookK (S:wl)(top:Nat->Stmt):Hook:=
 ⟨_,fun s=>ol S (yz s.heap),fun _=>nU S top,fun _ h=> ∃K:Frag,K.In h/\ol S K=nU S top,fun _ s e=>⟨_,yy s.heap,e⟩,fun _ _ _ ⟨K,a,b⟩ k=>⟨K,a.keeps k,b⟩⟩
section
variable {S:wl}{top:Nat->Stmt}{K:Frag}{h:Heap}{mg:Str->Option Value}
&qf {α β:Type}{f g:α->β}:∀ {l:List α} (j:Nat) {a:α},l.map f=l.map g->l[j]? =some a->f a=g a
 | [],_,_,_,q=>by cases q
 | b::l,0,a,e,q=>by cases q;#(List.cons.inj e).1
 | b::l,j+1,a,e,q=>qf (l:=l) j (List.cons.inj e).2 q
&cG (j:Nat){n:Str}{i:Nat}{ps:List Str}(X:K.In h)(G:h.Ns mainGlobals mg)(e:ol S K=nU S top)(q:S.tab[j]? =some (n,i))
  (hb:∀ (kV doc pm:Value) (an:Option Addr) (cdv ct:Value) (us:List Value),us.length=ps.length->bindArgs (fnOf n n (hY (top i)) (cO (top i)) (aj (top i)) .none kV doc pm an cdv ct) ⟨us,[]⟩=pure (ps.zip us)) :
  ∃f fd,Fn K mg n (top i) ps f fd:=by
 &⟨f,fd,h1,h2⟩:=fn_at (qf j (congrArg (·.1) e) q)
 #⟨f,fd,h2,h2.binds hb,mg_of X G h1⟩
&k_law (j:Nat){n:Str}{i:Nat}{x:Str}{fa:Addr}(X:K.In h)(G:h.Ns mainGlobals mg)(e:ol S K=nU S top)(q:S.tab[j]? =some (n,i))(hfa:mg n=some (.ref fa))
  (hb:∀ (kV doc pm:Value) (an:Option Addr) (cdv ct u:Value),bindArgs (fnOf n n (hY (top i)) (cO (top i)) (aj (top i)) .none kV doc pm an cdv ct) ⟨[u],[]⟩=pure [(x,u)]) :
  ∃fd,Fn K mg n (top i) [x] fa fd/\∀ (s:Shared) (u:Value),BindsTo s fd ⟨[u],[]⟩ [(x,u)]:=by
 &⟨f,fd,h1,h2⟩:=fn_at (qf j (congrArg (·.1) e) q)
 have z:=hfa.symm.trans (mg_of X G h1)
 cases z
 have hh:=h2
 &⟨oc,od,kV,doc,pm,an,cdv,ct,osl,rfl,lk,hcd⟩:=hh.ex
 #⟨_,⟨h2,.all fun us hl=>match us,hl with | [u],_=>hb kV doc pm an cdv ct u,mg_of X G h1⟩,fun s u=> .of_eq (hb kV doc pm an cdv ct u)⟩
&eR (j:Nat){n:Str}(X:K.In h)(G:h.Ns mainGlobals mg)(e:ol S K=nU S top)(q:S.zs[j]? =some n):mg n=none:=
 mg_none_of X G (mK (List.all_eq_true.mp (congrArg (·.2.1) e:S.zs.all (obZ K mainGlobals)=true) n (List.mem_of_getElem? q)))
&oO (j:Nat){n:Str}{i:Int}(X:K.In h)(G:h.Ns mainGlobals mg)(e:ol S K=nU S top)(q:S.cs[j]? =some (n,i)):∃ t,mg n=some (.int i t):=by
 &⟨t,ht⟩:=obC_of (qf (f:=fun c=>obC K c.1) (g:=fun c=>some c.2) j (congrArg (·.2.2.1) e) q)
 #⟨t,mg_of X G ht⟩
&k_exc (e:ol S K=nU S top):okX K S.es=true:=congrArg (·.2.2.2) e
end
&left_of {p q:Program}{loose:List Str}{Xt:Shared->Bool}{α:Type}{Yf:Shared->α}{Ya:World->α}{N:Nat}{g0:Bool}
  (e:opening p=plainProg p.main.scope.names) (hN:Nat.ble 600 N=true) (f:∀ s,fenceModules? p s=some s)
  (h:∀ (w:World) (os:OsState),(topFrom treeTable p w N ⟨boot_heap w.params,⟨[]⟩,boot_drawn,boot_toks,os⟩).map (fun s=>(openSeen q loose (importedModules p.main.body) Xt g0 s,Yf s))=some (openGood q loose,Ya w)) :
  LeftO p q loose Xt Yf Ya N g0:=fun w=>by
 &⟨⟨h0,gs,d,k,os⟩,e1,e2⟩:=Option.map_eq_some_iff.mp (boot_open e hN f w)
 simp only [Prod.mk.injEq]at e2
 &⟨rfl,rfl,rfl,rfl⟩:=e2
 #,openEnds
 rw [e1]
 #h w os
&walk_k {l:OpenLaw}{n k:Nat}{q:Program}{loose:List Str}{XP:(Str->Option Value)->Heap->Prop}{d:DefRec}{S:wl}{top:Nat->Stmt}{CX:CXT}{sp:Frag->Sp}{x:Str}
  (hn:l.most=some n) (hn2:n<=sizeLine) (hdf:d.params.defaults= []) (hr:Room k callerA)
  (F:∀ (w:World) (K:Frag) (mg:Str->Option Value) (fa:Addr) (h:Heap),K.In h->ol S K=nU S top->h.Ns mainGlobals mg->mg d.name=some (.ref fa) →
   ∃fd:FuncData,(∀(s:Shared) (u:Value),BindsTo s fd ⟨[u],[]⟩ [(x,u)])/\∀ base:Heap,K.In base->base.Ns mainGlobals mg->qF l.prog w K mg base CX k fa fd [x] (sp K))
  (hsp:∀ (K:Frag) (H:Hp) (a:Addr) (ns:List Int),ns.length<=n->Only H->SqL K H a (ns.map V.int)->sp K [.ref a] H (fun v _=>v= .bl true) fun _ _ _=>False)
  (hCX:∀ (H:Hp) (s:Shared) (e:Value) (s':Shared),CX [] H s (fun _ _ _=>False) e s'->False) :
  WalkO q loose XP (hookK S top).says l.row.toRowW d [] (fun f vs=>PySem.call f vs):=by
 &Att.attach_call hn hdf fun w s₀ s₁ mg mb fa o pm cd doc a vs ns G Y ho hd hcd hmg hobj hints hlen hg=> ?_
 &⟨K,KX,e⟩:=Y
 &⟨fd,hb,hF⟩:=F w K mg fa _ KX e G.T.g hmg
 #x6 KX G.T.g G.T.b G.T.builtins G.T.nolimit hg hobj hints (Nat.le_trans hlen hn2) hr hF hb (fun H hO hS=>hsp K H a ns hlen hO hS) fun H e s'=>hCX H s₁ e s'
structure Cl (P:Program)(w:World)(K:Frag)(mg:Str->Option Value)(base:Heap)(k:Nat)(x:Str)(n:Nat)(m:List T->Rs T):Prop where
 ex:∃ f fd ps,mg x=some (.ref f)/\keepIn K (.ref f)=true/\Binds K fd ps []/\ps.length=n/\zd P w K mg base k f fd ps n m
abbrev gJ (K:Frag)(mg:Str->Option Value)(x:Str)(st:Stmt)(ps:List Str):Prop:=∃ f fd,Fn K mg x st ps f fd
section
variable {P:Program}{w:World}{K:Frag}{mg:Str->Option Value}{base:Heap}{x:Str}{st:Stmt}{N ps:List Str}{k n:Nat}{F:En->Rs Fl}
&br (H:gJ K mg x st ps)(S:aE N ps (aj st))(hn:ps.length=n)
  (hbody:∀ (f:Addr) (cdv:Value) (A:Around) (outer:List Env) (s:Shared) (H:Hp) (E:XK),Room k (A.deeper (envOfC x (aj st) s.heap.objs.size f cdv)) →
   ∀xe,yZ ((kA CX0 P w K mg base N x (aj st) f cdv A outer s H E).wish xe) (cO st) F):Cl P w K mg base (k+1) x n (val n N.length F):=by
 &⟨f,fd,h⟩:=H
 #⟨f,fd,ps,h.mg,h.fn.kp,h.bd,hn,tY h.fn S hn (hbody f)⟩
end
section
variable {X:Cx}{e:Expr}{es:List Expr}{fs:En->Rs (List T)}{pos p:Pos}{x:Str}{n k k':Nat}{g:List T->Rs T}
&aP (c:Cl X.prog X.w X.K X.mg X.base k x n g)(hr:Room k' X.A)(ha:QA X (e::es) fs)(hk:k<=k':=by decide)(hl:∀ (ρ:En) (ts:List T),fs ρ= .ok ts->ts.length=n:=by repeat first | #aLen0 | &aLenS ?_)
  (hn:bM (e::es)=true:=by rfl) (hg:Gl X x:=by rfl) (h2:(x == Str.ofString "__debug__")=false:=by decide):QE X (.Call (.Name x p) (e::es) [] pos) (cl g fs):=by
 &⟨f,fd,ps,h1,h3,h4,h5,h6⟩:=c.ex
 #zq_c h6 (hr.mono hk) h1 h3 h4 hl ha h5 hn hg h2
&qJ {i:Int}(h:∃ t,X.mg x=some (.int i t))(hg:Gl X x:=by rfl)(hd:(x == Str.ofString "__debug__")=false:=by decide):QE X (.Name x pos) (cn (.int i)):=by
 &⟨t,h⟩:=h
 #zq_gint h ⟨_,rfl⟩ hg hd
abbrev SelE (X:Cx)(n:Nat)(es:List Expr)(gs:List (List T->Rs T)):Prop:=∃ as,Sels X n es as gs
&selN:SelE X n [] []:=⟨_,seln⟩
&selC {gs:List (List T->Rs T)}(c:Cl X.prog X.w X.K X.mg X.base k x n g)(hr:Room k' X.A)(h:SelE X n es gs)(hk:k<=k':=by decide)(hg:Gl X x:=by rfl)(hd:(x == Str.ofString "__debug__")=false:=by decide):SelE X n (.Name x p::es) (g::gs):=by
 &⟨f,fd,ps,h1,h3,h4,h5,h6⟩:=c.ex
 &⟨as,h⟩:=h
 #⟨_,selc h6 (hr.mono hk) h1 h3 h4 h h5 hg hd⟩
&zq_selE {args:List Expr}{a0 i0:Expr}{p1 p2:Pos}{gs:List (List T->Rs T)}{f0:En->Rs T}(S:SelE X n es gs)(h0:QE X i0 f0)(ha:QA X (a0::args) fs)(hl:∀ (ρ:En) (ts:List T),fs ρ= .ok ts->ts.length=n:=by repeat first | #aLen0 | &aLenS ?_)
  (hn:bM (a0::args)=true:=by rfl) (hs:jw i0:=by intro _ _;rfl) (hz:List.length es<=100:=by decide):QE X (.Call (.Subscript (.List es p1) i0 p2) (a0::args) [] pos) (vk gs f0 fs):=by
 &⟨as,S⟩:=S
 #zq_sel S h0 hl ha hn hs hz
end
end Tr
namespace Tr
open PySem PySem.Spec PyProof.Rows L2
&PairsAt.snoc {H:Hp}{b kb:Addr}{p:List Key×V}(h1:H b=some (.tup [.ref kb,p.2]))(h2:H kb=some (.tup (p.1.map kV))):∀ {xs:List V} {ps:List (List Key×V)},PairsAt H xs ps->PairsAt H (xs++ [.ref b]) (ps++ [p])
 | [],_,h=>by
  unfold PairsAt at h
  subst h
  #⟨b,kb,p,[],rfl,rfl,h1,h2,rfl⟩
 | x::xs,_,⟨b',kb',p',r,e1,e2,e3,e4,e5⟩=>by
  subst e1
  #⟨b',kb',p',r++ [p],rfl,e2,e3,e4,e5.snoc h1 h2⟩
&PairsAt.move {H H':Hp}{D:Addr}{zs:List V}(hD:H D=some (.lst zs))(s:SameO (fun a=>a=D) H H'):∀ {xs:List V} {ps:List (List Key×V)},PairsAt H xs ps->PairsAt H' xs ps
 | [],_,h=>h
 | x::xs,_,⟨b,kb,p,r,e1,e2,e3,e4,e5⟩=>⟨b,kb,p,r,e1,e2,s _ _ e3 (kn e3 hD (fun z=>nomatch z)),s _ _ e4 (kn e4 hD (fun z=>nomatch z)),e5.move hD s⟩
&PairsAt.len {H:Hp}:∀ {xs:List V} {ps:List (List Key×V)},PairsAt H xs ps->xs.length=ps.length
 | [],_,h=>by unfold PairsAt at h;subst h;rfl
 | x::xs,_,⟨b,kb,p,r,e1,e2,e3,e4,e5⟩=>by subst e1;rw [List.length_cons,List.length_cons,e5.len]
section
variable {X:Cx}
&rQ {src:List (Option Nat)}{wi:TI}{te:TE}{σ:L2.St}{H:Hp}{Q:VK}{ρ:En}{O:Ow}{l:List T}{kk:List (List Key)}(E:EnvO X.K O H ρ σ)(hwi:∀ R,(∀H1,Same H H1->∀ J,ItT X.K O H1 l J->R J H1)->wi σ H R)(hz:l.length<=1000)(hk:l.map aV=kk.map some)(hs:0<src.length)
  (Acc:Hp->Addr->List V->Prop) (a0:∀ H1 D,Same H H1->Nw X.K H1 D->Acc (upd H1 D (.lst [])) D [])
  (am:∀ H1 H2 D vs ys,Acc H1 D vs->H1 D=some (.lst ys)->SameO (fun a=>a=D) H1 H2->Acc H2 D vs)
  (hte:∀ t∈l,∀σ' H' O' D vs ys (Q':VK),EnvM X.K O' noM H' ((bz src ρ).set 0 (.va t)) σ'->Acc H' D vs->H' D=some (.lst ys)->(∀v H'',Same H' H''->Acc H'' D (vs++ [v])->Q' v H'')->te σ' H' Q')
  (hq:∀ H1 D ys ps H',Same H H1->Nw X.K H1 D->Same H1 H'->H' D=some (.lst ys)->PairsAt H' ys ps->ps.map (·.1)=kk->Acc H' D (ps.map (·.2))->Q (.ref D) H') :
  tLc X.K wi src (wK X (gN 0)) qQ (tTup (gp (l5 0) (gp te qS))) σ H Q:=by
 &hwi _ fun H1 s1 J hJ D hD hK=> ?_
 have nD:Nw X.K H1 D:=⟨hD,hK⟩
 have E1:=E.same s1
 have lk:l.length=kk.length:=by have:=congrArg List.length hk;rwa [List.length_map,List.length_map]at this
 have hlen:0<(bz src ρ).length:=by #,bz;rw [List.length_map];#hs
 let O':Ow:=fun a=>O a\/a=D
 have subO:∀ a,O' a->O a\/Nw X.K H1 a:=fun a z=>z.elim .inl fun w=> .inr (w▸nD)
 &⟨fun i m σ' ys H'=>m=l.length - i/\i<=l.length/\ys.length=i/\H' D=some (.lst ys)/\SameO (fun a=>a=D) (upd H1 D (.lst [])) H' ∧
  ∃s0 ps,EnvM X.K O' noM H' ((bz src ρ).set 0 s0) σ'/\PairsAt H' ys ps/\ps.map (·.1)=kk.take i/\Acc H' D (ps.map (·.2)),⟨l.length,?_⟩,?_⟩
 ·have sN:Same H1 (upd H1 D (.lst [])):=aS hD _
  &⟨by omega,Nat.zero_le _,rfl,aG,fun b o e _=>e,(bz src ρ)[0],[],?_,rfl,rfl,a0 H1 D s1 nD⟩
  rw [List.set_getElem_self]
  #(rR E1 src).move (P:=fun a=>a=D) (fun a z=> .inr (z▸nD)) subO (fun b o e _=>sN b o e) fun a z=>by
   rcases z with z | z
   ·#(E1.mtb a z).same sN
   ·rw [z];#.inl ⟨_,aG⟩
 ·rintro i m σ' ys H' ⟨rfl,hi',hyl,hDl,hsm,s0,ps,E',hp,hkk,hacc⟩
  &⟨hDl,?_⟩
  have sm1:SameO (fun a=>a=D) H1 H':=fun b o e nb=>hsm b o (by rw [aF nb];#e) nb
  have it:=hJ (fun a=>a=D) O' (fun a z=> .inr (z▸nD)) subO i H' sm1 (fun a z=>(E'.trk a z).some)
  by_cases hlt:i<l.length
  ·&.inr ?_
   &⟨go,yl⟩:=it.2 l[i] (by simp)
   &⟨go,by rw [hyl,sizeLine_eq];omega,fun xx Hc y=> ?_⟩
   &⟨sc,rx⟩:=yl xx Hc y
   have Ec:=E'.same sc
   have eg:gN 0 l[i] ((bz src ρ).set 0 s0)= .ok ((bz src ρ).set 0 (.va l[i])):=by #,gN;rw [if_pos (by rw [List.length_set];#hlen),List.set_set]
   &⟨(bz src ρ).set 0 s0,O',noM,l[i],Ec,rx,?_⟩
   rw [eg]
   intro σ1 Eg
   #,qQ
   dsimp only
   rw [if_pos rfl]
   &⟨kv,ekv,rkv⟩:=Eg.val 0 l[i] (by rw [List.getElem?_set_self hlen])
   &⟨kv,ekv,?_⟩
   have aC:Acc Hc D (ps.map (·.2)):=am H' Hc D _ ys hacc hDl fun b o e _=>sc b o e
   have DC:Hc D=some (.lst ys):=sc _ _ hDl
   &hte l[i] (List.getElem_mem hlt) σ1 Hc O' D _ ys _ Eg aC DC fun v H4 s4 acc4=>⟨by show 2<=sizeLine;rw [sizeLine_eq];omega,fun p hpn=> ?_⟩
   have D4:H4 D=some (.lst ys):=s4 _ _ DC
   have pD:p≠D:=fun z=>by rw [z,D4]at hpn;cases hpn
   have E4:=Eg.same s4
   have ki:kk[i]'(by omega)=kk[i]'(by omega):=rfl
   have hki:aV l[i] =some (kk[i]'(by omega)):=by
    have:=congrArg (fun z=>z[i]?) hk
    simp only [List.getElem?_map,List.getElem?_eq_getElem hlt,List.getElem?_eq_getElem (show i<kk.length by omega),Option.map_some]at this
    #Option.some.inj this
   &⟨kb,rfl,hkb⟩:=hV hki (rkv.same s4)
   have s46:SameO (fun a=>a=D) H4 (upd (upd H4 p (.tup [.ref kb,v])) D (.lst (ys++ [.ref p]))):=fun b o e nb=>by
    rw [aF nb,aF (fun z=>by rw [z,hpn]at e;cases e)];#e
   &⟨by rw [aF (Ne.symm pD)];#D4,l.length - (i+1),by omega,rfl,hlt,?_,aG,fun b o e nb=>s46 b o (s4 _ _ (sc _ _ (hsm b o e nb))) nb,.va l[i],ps++ [(kk[i]'(by omega),v)],?_,?_,?_,?_⟩
   ·rw [List.length_append,hyl];rfl
   ·#E4.move (fun a z=> .inl (.inr z)) (fun a z=> .inl z) s46 fun aa z=>by
     by_cases hz:aa=D
     ·rw [hz];#.inl ⟨_,aG⟩
     ·#(E4.trk aa z).elim (fun⟨vs,e⟩=> .inl ⟨vs,s46 _ _ e hz⟩) fun⟨vs,e⟩=> .inr ⟨vs,s46 _ _ e hz⟩
   ·&((hp.same (sc.trans s4)).move D4 s46).snoc (kb:=kb) (p:=(kk[i]'(by omega),v)) ?_ ?_
    ·rw [aF pD,aG]
    ·#s46 _ _ hkb (kn hkb D4 (fun z=>nomatch z))
   ·rw [List.map_append,hkk]
    show kk.take i++ [kk[i]'(by omega)] =kk.take (i+1)
    rw [List.take_append_getElem]
   ·rw [List.map_append]
    #am H4 _ D _ ys acc4 D4 s46
  ·&.inl ⟨it.1 (by omega),?_⟩
   have sF:Same H1 H':=fun b o e=>sm1 b o e fun z=>by rw [z,hD]at e;cases e
   #hq H1 D ys ps H' s1 nD sF hDl hp (by rw [hkk,List.take_of_length_le (by omega)]) hacc
def pq (K:PySem.W.Frag)(t:TE):TE:=fun σ H Q=>t σ H fun v H'=> ∃a xs ps,v= .ref a/\H' a=some (.lst xs)/\xs.length<=1000/\PairsAt H' xs ps/\∀ q,Nw K H' q->Q (.ref q) (upd H' q (.dT (eJ [] ps)))
&rA {e:Expr}{t:TE}{p pos:Pos}(hu:X.A.units+8<cLine)(hc:X.calm=true)(hm:X.mg "dict" =none)(ha:PE X e t)(hg:Gl X "dict")(hs:bx e=true):PE X (.Call (.Name "dict" p) [e] [] pos) (pq X.K t):=by
 have h1:starEach [e] X.env=(false,eval e X.env)::starEach [] X.env:=bh hs
 intro pins s σ H Q I hq
 &wpAny_Call_Name_kw (ge I hg hm (show bootBuiltins "dict" =some (.type "dict")by decide+kernel) ?_ (by decide) (by decide))
 &PyProof.Rows.callWith_type1 (bU (bi (te:=t) ha df h1 pos pins s σ H (fun zs H'=>match zs with | [v] => ∃a xs ps,v= .ref a/\H' a=some (.lst xs)/\xs.length<=1000/\PairsAt H' xs ps/\∀ q,Nw X.K H' q->Q (.ref q) (upd H' q (.dT (eJ [] ps))) | _=>False) I ?_) fun us s1 hh=> ?_) h1 rfl
 ·#hq
 ·&⟨vs,H1,I1,r1,hv⟩:=hh
  match vs,hv,r1 with
  | [v],hv,r1=>
  &⟨a,xs,ps,ev,e1,e2,e3,e4⟩:=hv
  subst ev
  &⟨u,rfl,ru⟩:=r1.one
  obtain rfl:u=Value.ref a:=ru
  #si (I1.ok.hd hc) hu I1 e1 e2 e3 fun q s' nw I'=>⟨.ref q,_,I',rfl,e4 q nw⟩
end
&kJ:∀ (ps kvs:List (List Key×V)),((kvs++ps).map (·.1)).Nodup->eJ kvs ps=kvs++ps
 | [],kvs,_=>by rw [eJ,List.append_nil]
 | p::ps,kvs,h=>by
  have e:db kvs p.1 p.2=kvs++ [p]:=by
   #,db
   rw [if_neg]
   intro z
   &⟨q,hq,e⟩:=List.any_eq_true.mp z
   have e:=of_decide_eq_true e
   rw [List.map_append,List.nodup_append]at h
   #h.2.2 q.1 (List.mem_map.mpr ⟨q,hq,rfl⟩) p.1 (by simp) e
  rw [eJ,e,kJ ps (kvs++ [p]) (by rw [List.append_assoc];#h),List.append_assoc]
  rfl
def f8 (kk:List (List Key)):List (List Key×V):=kk.map fun k=>(k,V.non)
&row_eq {kk:List (List Key)}:∀ {ps:List (List Key×V)},ps.map (·.1)=kk->(∀v∈ps.map (·.2),v=V.non)->ps=f8 kk:=by
 intro ps h1 h2
 subst h1
 #,f8
 rw [List.map_map]
 conv=>lhs;rw [<-List.map_id ps]
 #List.map_congr_left fun p hp=>Prod.ext rfl (h2 p.2 (List.mem_map.mpr ⟨p,hp,rfl⟩))
section
variable {X:Cx}
def tPI0 (K:PySem.W.Frag)(f:En->Rs (List T)):TI:=fun σ H R=> ∃ρ O,EnvO K O H ρ σ/\match f ρ with
 | .ok ts=> ∀H',Same H H'->∀ J,ItT K O H' ts J->R J H'
 | _=>False
&tPI0.up {f:En->Rs (List T)}{σ:L2.St}{H:Hp}{R:It->Hp->Prop}(h:tPI0 X.K f σ H R):tPI X f σ H R:=by
 &⟨ρ,O,E,h⟩:=h
 &⟨ρ,O,E,?_⟩
 cases q:f ρ with
 | ok t=>rw [q]at h;#h
 | err c=>rw [q]at h;#h.elim
 | bad=>rw [q]at h;#h.elim
def sM (X:Cx)(src:List (Option Nat)):TE:=pq X.K (tLc X.K (tPI0 X.K (iS (vr 1))) src (wK X (gN 0)) qQ (tTup (gp (l5 0) (gp (tC .non) qS))))
&pe_row {eb tb ib:Expr}{p q1 pc lp pos:Pos}{jj:Nat}{sc:Scope}{N':List Str}{src:List (Option Nat)}{x1}(hu:X.A.units+8<cLine)(hc:X.calm=true)(hm:X.mg "dict" =none)(hg:Gl X "dict")(S:LcScope X sc N' src)(hi:wq X tb ib (iS (vr 1)))
  (blk:∀ cl C s₀ H₀ fp,PGt (bW X sc cl N' C s₀ H₀ fp) tb (gN 0)/\PE (bW X sc cl N' C s₀ H₀ fp) eb (l5 0)/\bx eb=true) (hs:∀ x,foldedSetIterable ib X.env x=pure x) :
  PE X (.Call (.Name "dict" p) [.ListComp (.Tuple [eb,.Constant .none jj pc] x1 q1) [⟨tb,ib,[],0⟩] sc lp] [] pos) (sM X src):=
 PE.imp (rA hu hc hm (rz hc S hi (fun cl C s₀ H₀ fp=>⟨(blk cl C s₀ H₀ fp).1,pQ,pR (bi (blk cl C s₀ H₀ fp).2.1 (bi xw df (bh rfl)) (bh (blk cl C s₀ H₀ fp).2.2))⟩) hs) hg rfl) fun σ H Q h=>tPI0.up h
&wW {src:List (Option Nat)}{σ:L2.St}{H:Hp}{Q:VK}{ρ:En}{O:Ow}{l:List T}{kk:List (List Key)}(E:EnvO X.K O H ρ σ)(hf:iS (vr 1) ρ= .ok l)(hz:l.length<=1000)(hk:l.map aV=kk.map some)(hn:kk.Nodup)(hs:0<src.length)
  (hq:∀ d H',Same H H'->Nw X.K H d->H' d=some (.dT (f8 kk))->Q (.ref d) H'):sM X src σ H Q:=by
 have lk:l.length=kk.length:=by have:=congrArg List.length hk;rwa [List.length_map,List.length_map]at this
 #,sM pq
 &rQ (X:=X) (te:=tC .non) E (fun R h=>⟨ρ,O,E,by rw [hf];#h⟩) hz hk hs (fun _ _ vs=> ∀v∈vs,v=V.non) (fun _ _ _ _ v h=>nomatch h) (fun _ _ _ _ _ h _ _=>h) (fun t ht σ' H' O' D vs ys Q' _ acc _ k=>k _ H' (Same.refl H') fun v hv=> ?_) fun H1 D ys ps H' s1 nD s2 hD hp h1 h2=> ?_
 ·rcases List.mem_append.mp hv with z | z
  ·#acc v z
  ·#List.mem_singleton.mp z
 ·have e:ps=f8 kk:=row_eq h1 h2
  &⟨D,ys,ps,rfl,hD,by rw [hp.len,e];#,f8;rw [List.length_map];omega,hp,fun q nq=> ?_⟩
  have e2:eJ [] ps=f8 kk:=by rw [kJ ps [] (by rw [List.nil_append,h1];#hn),List.nil_append,e]
  rw [e2]
  #hq q _ ((s1.trans s2).trans (aS nq.1 _)) (kj (s1.trans s2) nq) aG
&rl {K:PySem.W.Frag}{O:Ow}{H:Hp}:∀ (l:List T) (kk:List (List Key)),l.length=kk.length->Reps K O H (l.map fun _=>T.non) ((f8 kk).map (·.2))
 | [],[],_=>Reps.nil_
 | _::l,_::kk,h=>Reps.cons_ Rep.non_ (rl l kk (by simpa using h))
 | [],_::_,h=>by simp at h
 | _::_,[],h=>by simp at h
&ri {K:PySem.W.Frag}{O:Ow}{H:Hp}{l:List T}{kk:List (List Key)}(hk:l.map aV=kk.map some):∀ {m:List T} {ds:List Addr},m.length=ds.length->(∀d∈ds,H d=some (.dT (f8 kk)))->RowsR K O H (m.map fun _=>(l,l.map fun _=>T.non)) ds
 | [],[],_,_=>rfl
 | _::m,d::ds,h,hd=>⟨d,ds,f8 kk,rfl,hd d List.mem_cons_self,by #,f8;rw [List.map_map];#hk,rl l kk (by have:=congrArg List.length hk;rwa [List.length_map,List.length_map]at this),ri hk (by simpa using h) fun e he=>hd e (List.mem_cons_of_mem _ he)⟩
 | [],_::_,h,_=>by simp at h
 | _::_,[],h,_=>by simp at h
&uK:∀ {l:List T},li l=true->∃ kk:List (List Key),l.map aV=kk.map some
 | [],_=>⟨[],rfl⟩
 | t::l,h=>by
  unfold li at h
  rw [Bool.and_eq_true]at h
  &⟨kk,e⟩:=uK h.2
  &⟨k,ek⟩:=Option.isSome_iff_exists.mp h.1
  #⟨k::kk,by rw [List.map_cons,List.map_cons,ek,e]⟩
&xc (i j:Nat){x:Str}{ea r ta ia:Expr}{p q1 lp p2 p3 pos:Pos}{x1}{sc:Scope}{N':List Str}{src:List (Option Nat)}(hu:X.A.units+8<cLine)(hc:X.calm=true)(hm:X.mg "dict" =none)(hN:X.N.Nodup)
  (S:LcScope X sc N' [none,some j]) (hi:wq X ta ia (iS (vr j))) (hsr:0<src.length)
  (blk:∀ cl C s₀ H₀ fp,PGt (bW X sc cl N' C s₀ H₀ fp) ta (gN 0)/\PE (bW X sc cl N' C s₀ H₀ fp) ea (l5 0)/\PE (bW X sc cl N' C s₀ H₀ fp) r (sM X src)) (h1:bx ea=true:=by rfl) (h2:bx r=true:=by rfl)
  (hs:∀ x,foldedSetIterable ia X.env x=pure x:=by intro _;rfl) (hg:Gl X "dict":=by rfl) (hix:X.N[i]? =some x:=by rfl) (hx:Loc X.env.scope x:=by first | #Or.inl rfl | #Or.inr rfl)
  (hsw:swapsWith (.Call (.Name "dict" p) [.ListComp (.Tuple [ea,r] x1 q1) [⟨ta,ia,[],0⟩] sc lp] [] p2) (some (.Name x p3)) pos.line X.env=pure false:=by rfl)
  (hf:X.fn x=true\/X.env.scope.names.lookup x=some .local:=by first | #.inl rfl | #.inr rfl | assumption) :
  nT X (.Assign [.Name x p3] (.Call (.Name "dict" p) [.ListComp (.Tuple [ea,r] x1 q1) [⟨ta,ia,[],0⟩] sc lp] [] p2) pos) (mm i j):=
 PS.imp (mq hN hix hx (rA hu hc hm (rz (g:=wK X (gN 0)) (tc:=qQ) (te:=tTup (gp (l5 0) (gp (sM X src) qS))) hc S hi (fun cl C s₀ H₀ fp=>⟨(blk cl C s₀ H₀ fp).1,pQ,pR (bi (blk cl C s₀ H₀ fp).2.1 (bi (blk cl C s₀ H₀ fp).2.2 df (bh h2)) (bh h1))⟩) hs) hg rfl) hsw hf) fun D σ H hh_=>by
  &⟨ρ,B,M,E,h⟩:=hh_
  unfold mm at h
  cases qj:ρ[j]? with
  | none=>rw [qj]at h;#h.elim
  | some z=>
   rw [qj]at h
   match z,h,qj with
   | .va (.lst l),h,qj=>
    dsimp only at h
    by_cases hh:i<ρ.length/\li l=true/\(l.map aV).Nodup/\l.length<=1000
    ·rw [if_pos hh]at h
     &⟨hl,hky,hnd,hz⟩:=hh
     &⟨kk,hk⟩:=uK hky
     have lk:l.length=kk.length:=by have:=congrArg List.length hk;rwa [List.length_map,List.length_map]at this
     have hn:kk.Nodup:=by
      rw [hk]at hnd
      #(List.pairwise_map.mp hnd).imp fun h z=>h (by rw [z])
     have fj:iS (vr j) ρ= .ok l:=by #,iS vr;rw [qj];rfl
     have hlc:bz [none,some j] ρ= [.em,.va (.lst l)]:=by #,bz;simp [qj]
     #,wL pq
     &rQ (X:=X) (te:=sM X src) E.o (fun R h=>⟨ρ,OO B M,E.o,by rw [fj];#h⟩) hz hk (by simp)
      (fun H' D vs=>H D=none/\Same H H'/\∃ ds:List Addr,vs=ds.map V.ref/\ds.Nodup/\∀ d∈ds,Nw X.K H d/\H' d=some (.dT (f8 kk)))
      (fun H1 D s1 nD=>⟨(kj s1 nD).1,s1.trans (aS nD.1 _),[],rfl,List.nodup_nil,fun d h=>nomatch h⟩)
      (fun H1 H2 D vs ys ⟨c1,c2,ds,c3,c4,c5⟩ hD s=>⟨c1,(fun b o e=>s b o (c2 b o e) (fun z=>by rw [z,c1]at e;cases e)),ds,c3,c4,fun d hd=>⟨(c5 d hd).1,s _ _ (c5 d hd).2 (kn (c5 d hd).2 hD (fun z=>nomatch z))⟩⟩)
      (fun t ht σ' H' O' D vs ys Q' E' ⟨c1,c2,ds,c3,c4,c5⟩ hD k=>wW (l:=l) (kk:=kk) ⟨noM,E'⟩ (by rw [hlc];rfl) hz hk hn hsr fun d H'' s' nd hd=> ?_) fun H1 D ys ps H' s1 nD s2 hD hp e1 ⟨c1,c2,ds,c3,c4,c5⟩=> ?_
     ·&k _ H'' s' ⟨c1,c2.trans s',ds++ [d],by rw [c3,List.map_append];rfl,?_,fun e he=> ?_⟩
      ·&List.nodup_append.mpr ⟨c4,by simp,fun u hu w hw=> ?_⟩
       rw [List.mem_singleton.mp hw]
       intro z
       have:=(c5 u hu).2
       rw [z,nd.1]at this
       cases this
      ·rcases List.mem_append.mp he with z | z
       ·#⟨(c5 e z).1,s' _ _ (c5 e z).2⟩
       ·rw [List.mem_singleton.mp z]
        #⟨kj c2 nd,hd⟩
     ·have hpl:ps.length=kk.length:=by rw [<-e1,List.length_map]
      &⟨D,ys,ps,rfl,hD,by rw [hp.len];omega,hp,fun q nq=> ?_⟩
      have e2:eJ [] ps=ps:=by rw [kJ ps [] (by rw [List.nil_append,e1];#hn),List.nil_append]
      rw [e2]
      have qd:q∉ds:=fun z=>by have:=(c5 q z).2;rw [nq.1]at this;cases this
      have dl:ds.length=ps.length:=by have:=congrArg List.length c3;rw [List.length_map,List.length_map]at this;#this.symm
      have hm':∀ b,b=q\/b∈ds->Nw X.K H b:=fun b z=>z.elim (fun w=>w▸kj c2 nq) fun w=>(c5 b w).1
      have sF:Same H (upd H' q (.dT ps)):=c2.trans (aS nq.1 _)
      &⟨E2,sub⟩:=E.new (m:=fun b=>b=q\/b∈ds) (o:=.dd l (l.map fun _=>(l,l.map fun _=> .non))) (v:=.ref q) (H':=upd H' q (.dT ps)) hl hm' sF ⟨q,ps,ds,rfl,fun b=>Iff.rfl,qd,c4,aG,by rw [hk,<-e1,List.map_map];rfl,c3,ri hk (by omega) fun d hd=>by rw [aF (show d≠q from fun z=>qd (z▸hd))];#(c5 d hd).2⟩
      #h _ _ _ (SameO.of sF) E2 sub
    ·rw [if_neg hh]at h;#h.elim
   | .em,h,_=>#h.elim
   | .ow _,h,_=>#h.elim
   | .va .non,h,_=>#h.elim
   | .va (.bl _),h,_=>#h.elim
   | .va (.int _),h,_=>#h.elim
   | .va (.str _),h,_=>#h.elim
   | .va (.tup _),h,_=>#h.elim
   | .va (.scr _),h,_=>#h.elim
   | .va (.dct _ _),h,_=>#h.elim
end
&ve {X:Cx}(i j:Nat){x:Str}{ea r ta ia:Expr}{p q1 lp p2 p3 pos:Pos}{x1}{sc:Scope}{N':List Str}{src:List (Option Nat)}(hu:X.A.units+8<cLine)(hc:X.calm=true)(hm:X.mg "dict" =none)(hN:X.N.Nodup)
  (S:LcScope X sc N' [none,some j]) (hi:QI X ta ia (iS (vr j))) (hsr:0<src.length)
  (blk:∀ cl C s₀ H₀ fp,QG (bW X sc cl N' C s₀ H₀ fp) ta (gN 0)/\PE (bW X sc cl N' C s₀ H₀ fp) ea (l5 0)/\PE (bW X sc cl N' C s₀ H₀ fp) r (sM X src)) (h1:bx ea=true:=by rfl) (h2:bx r=true:=by rfl)
  (hs:∀ x,foldedSetIterable ia X.env x=pure x:=by intro _;rfl) (hg:Gl X "dict":=by rfl) (hix:X.N[i]? =some x:=by rfl) (hx:Loc X.env.scope x:=by first | #Or.inl rfl | #Or.inr rfl)
  (hsw:swapsWith (.Call (.Name "dict" p) [.ListComp (.Tuple [ea,r] x1 q1) [⟨ta,ia,[],0⟩] sc lp] [] p2) (some (.Name x p3)) pos.line X.env=pure false:=by rfl)
  (hf:X.fn x=true\/X.env.scope.names.lookup x=some .local:=by first | #.inl rfl | #.inr rfl | assumption) :
  QS X (.Assign [.Name x p3] (.Call (.Name "dict" p) [.ListComp (.Tuple [ea,r] x1 q1) [⟨ta,ia,[],0⟩] sc lp] [] p2) pos) (mm i j):=
 ⟨xc i j hu hc hm hN S hi.h hsr (fun cl C s₀ H₀ fp=>⟨(blk cl C s₀ H₀ fp).1.h,(blk cl C s₀ H₀ fp).2⟩) h1 h2 hs hg hix hx hsw hf⟩
end Tr
namespace G
open PySem PySem.Spec PyProof.Rows L2 Tr
def top (i:Nat):Stmt:=PySem.Challenge.pw_farclocks_k60_room.main.body.getD i (.Pass ⟨0,0,0,0⟩)
structure Bl (mg:Str->Option Value):Prop where
 b_ValueError:mg "ValueError" =none
 b_all:mg "all" =none
 b_bool:mg "bool" =none
 b_dict:mg "dict" =none
 b_enumerate:mg "enumerate" =none
 b_int:mg "int" =none
 b_isinstance:mg "isinstance" =none
 b_len:mg "len" =none
 b_list:mg "list" =none
 b_max:mg "max" =none
 b_range:mg "range" =none
 b_sum:mg "sum" =none
 b_tuple:mg "tuple" =none
structure Cs (mg:Str->Option Value):Prop where
 MOST_CLOCKS:∃ t,mg "MOST_CLOCKS" =some (.int 4 t)
 MOST_LETTERS:∃ t,mg "MOST_LETTERS" =some (.int 8 t)
 MOST_READINGS:∃ t,mg "MOST_READINGS" =some (.int 4 t)
 LAST_READING:∃ t,mg "LAST_READING" =some (.int 99 t)
 SLOWEST:∃ t,mg "SLOWEST" =some (.int 9 t)
 LONGEST:∃ t,mg "LONGEST" =some (.int 999 t)
&kD:bootBuiltins "bool" =some (.type "bool"):=by decide+kernel
&i5:bootBuiltins "int" =some (.type "int"):=by decide+kernel
&kC:bootBuiltins "list" =some (.type "list"):=by decide+kernel
&ff:bootBuiltins "tuple" =some (.type "tuple"):=by decide+kernel
structure Xs (K:PySem.W.Frag)(mg:Str->Option Value)(C_NoRecord C_NoEvent C_NoNumber C_NoWorld C_Barred C_Nothing C_ClockError:Addr):Prop where
 m_NoRecord:mg "NoRecord" =some (.ref C_NoRecord)
 m_NoEvent:mg "NoEvent" =some (.ref C_NoEvent)
 m_NoNumber:mg "NoNumber" =some (.ref C_NoNumber)
 m_NoWorld:mg "NoWorld" =some (.ref C_NoWorld)
 m_Barred:mg "Barred" =some (.ref C_Barred)
 m_Nothing:mg "Nothing" =some (.ref C_Nothing)
 m_ClockError:mg "ClockError" =some (.ref C_ClockError)
 o_NoRecord:OX K C_NoRecord (.ref C_ClockError::lH)
 o_NoEvent:OX K C_NoEvent (.ref C_ClockError::lH)
 o_NoNumber:OX K C_NoNumber (.ref C_ClockError::lH)
 o_NoWorld:OX K C_NoWorld (.ref C_ClockError::lH)
 o_Barred:OX K C_Barred (.ref C_ClockError::lH)
 o_Nothing:OX K C_Nothing (.ref C_ClockError::lH)
 o_ClockError:OX K C_ClockError lH
 d:[C_NoRecord,C_NoEvent,C_NoNumber,C_NoWorld,C_Barred,C_Nothing,C_ClockError].Nodup
abbrev bR:Stmt:=top 57
&sc__law_refused:aE ["_law_e","_law_flags"] ["_law_e"] (aj bR):=⟨rfl,rfl,rfl,by decide+kernel,rfl,by decide+kernel,by decide+kernel⟩
def gC (j:Nat):T:=.tup [.str "refused",.int (j:Nat)]
def qm (c:Str):Rs T:=if c= "NoRecord" then .ok (gC 0)else if c= "NoEvent" then .ok (gC 1)else if c= "NoNumber" then .ok (gC 2)else if c= "NoWorld" then .ok (gC 3)else if c= "Barred" then .ok (gC 4)else if c= "Nothing" then .ok (gC 5)else .bad
section
variable {P:Program}{w:World}{K:PySem.W.Frag}{mg:Str->Option Value}{base:Heap}{C_NoRecord C_NoEvent C_NoNumber C_NoWorld C_Barred C_Nothing C_ClockError:Addr}
&Xs.ne {C D:Addr}(h:C≠D):(Value.ref C::lH).contains (.ref D)=false:=by
 rw [List.contains_cons]
 have:(Value.ref D == Value.ref C)=false:=by rw [beq_eq_false_iff_ne];#fun z=>h (Value.ref.inj z).symm
 rw [this];rfl
&w4 {C e f:Addr}{oe:Obj}{ev:Array Value}{A:Around}{outer:List Env}{s:Shared}{H:Hp}{Q:VK}{j:Nat}(S:Xs K mg C_NoRecord C_NoEvent C_NoNumber C_NoWorld C_Barred C_Nothing C_ClockError)(OC:OX K C (.ref C_ClockError::lH))
  (hc:oe.cls= .ref C) (hd:oe.data= .fields ev) (hi:mg "isinstance" =none) (hv:mg "ValueError" =none) (n_NoRecord:C_ClockError≠C_NoRecord) (n_NoEvent:C_ClockError≠C_NoEvent) (n_NoNumber:C_ClockError≠C_NoNumber) (n_NoWorld:C_ClockError≠C_NoWorld) (n_Barred:C_ClockError≠C_Barred) (n_Nothing:C_ClockError≠C_Nothing)
  {b0 b1 b2 b3 b4 b5:Bool} (h0:decide (C=C_NoRecord)=b0) (h1:decide (C=C_NoEvent)=b1) (h2:decide (C=C_NoNumber)=b2) (h3:decide (C=C_NoWorld)=b3) (h4:decide (C=C_Barred)=b4) (h5:decide (C=C_Nothing)=b5)
  (cnt:[b0,b1,b2,b3,b4,b5].countP id=1) (hj:[b0,b1,b2,b3,b4,b5][j]? =some true) (hno:∀ m,m<j->[b0,b1,b2,b3,b4,b5][m]? =some false)
  (q:∀ p H',Same H H'->H p=none->H' p=some (.tup [.str "refused",.int (j:Nat)])->Q (.ref p) H') (cdv:Value) :
  ∃t,PSs (cxH P w K mg base ["_law_e","_law_flags"] "_law_refused" (aj bR) f cdv A outer s H e oe) (cO bR) t/\t { nx:=fun _ _=>False,rt:=Q } (start ["_law_e","_law_flags"] [.ref e]) H:=by
 have nd:=sc__law_refused.nd
 have hp:(e,oe)∈(cxH P w K mg base ["_law_e","_law_flags"] "_law_refused" (aj bR) f cdv A outer s H e oe).pn:=List.mem_cons_self
 &⟨_,kf (mq (i:=1) nd rfl (Or.inl rfl) (pT (bi (kK rfl (Or.inl rfl) hp hc hd OC S.o_NoRecord b0 h0 (fun _=>Xs.ne n_NoRecord) hi S.m_NoRecord) (bi (kK rfl (Or.inl rfl) hp hc hd OC S.o_NoEvent b1 h1 (fun _=>Xs.ne n_NoEvent) hi S.m_NoEvent) (bi (kK rfl (Or.inl rfl) hp hc hd OC S.o_NoNumber b2 h2 (fun _=>Xs.ne n_NoNumber) hi S.m_NoNumber) df)))))
  (kf (mq (i:=1) nd rfl (Or.inl rfl) (pe_op xI (pv 1) (pT (bi (kK rfl (Or.inl rfl) hp hc hd OC S.o_NoWorld b3 h3 (fun _=>Xs.ne n_NoWorld) hi S.m_NoWorld) (bi (kK rfl (Or.inl rfl) hp hc hd OC S.o_Barred b4 h4 (fun _=>Xs.ne n_Barred) hi S.m_Barred) (bi (kK rfl (Or.inl rfl) hp hc hd OC S.o_Nothing b5 h5 (fun _=>Xs.ne n_Nothing) hi S.m_Nothing) df))))))
  (kf (ps_if (PW.pt (pw_or (pt_cmpR op_ne (uo PySem.F.plainAttrs_list PySem.F.slot_list_count PySem.F.type_list_count vJ (pv 1) (bi xC df)) sW (nomark _)) (xi (xm (xk (pe_isV rfl (Or.inl rfl) hp hc OC hi hv)))))) (fJ xo) uh)
  (fJ (iH (pR (bi xu (bi (uo PySem.F.plainAttrs_list PySem.F.slot_list_index PySem.F.type_list_index vH (pv 1) (bi xC df)) df))))))),?_⟩
 &⟨rfl,rfl,rfl,(by show 3<=sizeLine;decide),fun l1 n1=> ?_⟩
 &⟨.ref l1,rfl,rfl,rfl,rfl,(by show 3<=sizeLine;decide),fun l2 n2=> ?_⟩
 have ne21:l1≠l2:=fun z=>by subst z;rw [aG]at n2;cases n2
 &⟨l1,l2,[.bl b0,.bl b1,.bl b2],[.bl b3,.bl b4,.bl b5],rfl,rfl,by rw [aF ne21,aG],aG,(by show 3+3<=sizeLine;decide),fun l3 n3=> ?_⟩
 &⟨.ref l3,rfl,.inl ⟨rfl,_,SqL.of aG⟩,⟨l3,[b0,b1,b2,b3,b4,b5],rfl,rfl,aG,?_⟩⟩
 have hz:(!decide (V.int (([b0,b1,b2,b3,b4,b5].countP id:Nat):Int)=V.int 1))=false:=by rw [cnt];simp
 &⟨rfl,false,congrArg V.bl hz,iteF ⟨rfl,true,rfl,iteF ?_⟩⟩
 have hj6:j<6:=by have:=(List.getElem?_eq_some_iff.mp hj).1;simpa using this
 &⟨.ref l3,rfl,.inl ⟨rfl,_,SqL.of aG⟩,⟨l3,[b0,b1,b2,b3,b4,b5],j,rfl,rfl,aG,hj,hno,by omega,(by show 2<=sizeLine;decide),fun p np=>q p _ ?_ ?_ aG⟩⟩
 rotate_left
 ·have m3:p≠l3:=fun z=>by subst z;rw [aG]at np;cases np
  have m2:p≠l2:=fun z=>by subst z;rw [aF m3,aG]at np;cases np
  have m1:p≠l1:=fun z=>by subst z;rw [aF m3,aF m2,aG]at np;cases np
  rw [aF m3,aF m2,aF m1]at np;#np
 intro b o hb
 have m1:b≠l1:=fun z=>by subst z;rw [n1]at hb;cases hb
 have m2:b≠l2:=fun z=>by subst z;rw [aF m1,hb]at n2;cases n2
 have m3:b≠l3:=fun z=>by subst z;rw [aF m2,aF m1,hb]at n3;cases n3
 have m4:b≠p:=fun z=>by subst z;rw [aF m3,aF m2,aF m1,hb]at np;cases np
 rw [aF m4,aF m3,aF m2,aF m1];#hb
end
section
variable {X:Cx}{C_NoRecord C_NoEvent C_NoNumber C_NoWorld C_Barred C_Nothing C_ClockError:Addr}
def tRC (X:Cx)(i:Nat)(e:Addr)(j:Nat):TE:=fun σ H Q=>σ[i]? =some (some (.ref e))/\H e=none/\e∉ni X.stack/\∀ p H',Same H H'->H p=none->H' p=some (.tup [.str "refused",.int (j:Nat)])->Q (.ref p) H'
&eO {en:Str}{p p1 pos:Pos}{i j:Nat}{C e f:Addr}{fd:FuncData}{oe:Obj}{ev:Array Value}(hN:X.N[i]? =some en)(hv:qH X.env.scope en)
  (Fn_:Fn X.K X.mg "_law_refused" bR ["_law_e"] f fd) (S:Xs X.K X.mg C_NoRecord C_NoEvent C_NoNumber C_NoWorld C_Barred C_Nothing C_ClockError) (OC:OX X.K C (.ref C_ClockError::lH))
  (hc:oe.cls= .ref C) (hd:oe.data= .fields ev) (hi:X.mg "isinstance" =none) (hvv:X.mg "ValueError" =none) (n_NoRecord:C_ClockError≠C_NoRecord) (n_NoEvent:C_ClockError≠C_NoEvent) (n_NoNumber:C_ClockError≠C_NoNumber) (n_NoWorld:C_ClockError≠C_NoWorld) (n_Barred:C_ClockError≠C_Barred) (n_Nothing:C_ClockError≠C_Nothing)
  {b0 b1 b2 b3 b4 b5:Bool} (h0:decide (C=C_NoRecord)=b0) (h1:decide (C=C_NoEvent)=b1) (h2:decide (C=C_NoNumber)=b2) (h3:decide (C=C_NoWorld)=b3) (h4:decide (C=C_Barred)=b4) (h5:decide (C=C_Nothing)=b5)
  (cnt:[b0,b1,b2,b3,b4,b5].countP id=1) (hj:[b0,b1,b2,b3,b4,b5][j]? =some true) (hno:∀ m,m<j->[b0,b1,b2,b3,b4,b5][m]? =some false) (hr:X.A.depth+3<recursionLimit)
  (hg:Gl (tO X e oe) "_law_refused":=by rfl) (hde:(en == ("__debug__" : Str))=false:=by decide) (hce:(en == ("__classdict__" : Str))=false:=by decide)
  (he:starEach [.Name en p1] X.env=(false,eval (.Name en p1) X.env)::starEach [] X.env:=by rfl) (hpl:(backTo pos (starEach [] X.env)).any (·.1)=false:=by rfl) :
  PE (tO X e oe) (.Call (.Name "_law_refused" p) [.Name en p1] [] pos) (tRC X i e j):=by
 intro pins s σ H Q I ⟨hσ,hH,hf,q⟩
 &wpAny_Call_Name_kw (jm (X:=tO X e oe) I hg Fn_.mg ?_ (by decide))
 have hA:PA (tO X e oe) [.Name en p1] (gp (l5 i) qS):=bi (gY (X:=tO X e oe) hN hv hde hce) df he
 &PySem.W.callWith_K (h₀:=X.base) I.ok.mod.kin Fn_.fn.kp (bU (hA pos pins s σ H (fun vs H'=>vs= [.ref e]/\H'=H) I ⟨.ref e,hσ,rfl,rfl⟩) fun us s1 ⟨vs,H1,I1,r,e1,e2⟩=>⟨I1.kIn,?_⟩) he hpl
 subst e1
 subst e2
 &⟨u,rfl,ru⟩:=jA r
 cases ru
 have hoe:s1.heap.get? e=some oe:=(I1.pin (e,oe) (List.mem_append_left _ List.mem_cons_self)).1
 have hb:=Fn_.bd s1 [.ref e] I1.kIn rfl
 &wpAny_call (codeAny_mono (fnh_ok (Q:=Q) Fn_.fn sc__law_refused (vs:=[.ref e]) rfl hr I1.env0 hb r hoe hH hf (fun v z=>by rw [hd]at z;cases z) fun cdv=>w4 S OC hc hd hi hvv n_NoRecord n_NoEvent n_NoNumber n_NoWorld n_Barred n_Nothing h0 h1 h2 h3 h4 h5 cnt hj hno q cdv) fun r s' hq=> ?_)
 cases r with
 | error ev=>#hq.elim
 | ok fl=>
  cases fl with
  | ret u=>#I1.after hq
  | next=>#hq.elim
  | brk=>#hq.elim
  | cont=>#hq.elim
&je {K:PySem.W.Frag}{O:Ow}{H H':Hp}{p:Addr}{j:Nat}(hO:∀ p,H p=none->¬ O p)(hp:H p=none)(h:H' p=some (.tup [.str "refused",.int (j:Nat)])):Rep K O H' (gC j) (.ref p):=
 Rep.tup_iff.mpr ⟨p,_,rfl,hO p hp,h,Reps.cons_ (Rep.str_ _) (Reps.cons_ (Rep.int_ _) Reps.nil_)⟩
&wN {en:Str}{p p1 pos rp:Pos}{i:Nat}{f:Addr}{fd:FuncData}(hN:X.N[i]? =some en)(hv:qH X.env.scope en)
  (Fn_:Fn X.K X.mg "_law_refused" bR ["_law_e"] f fd) (S:Xs X.K X.mg C_NoRecord C_NoEvent C_NoNumber C_NoWorld C_Barred C_Nothing C_ClockError) (hi:X.mg "isinstance" =none) (hvv:X.mg "ValueError" =none) (hr:X.A.depth+3<recursionLimit)
  (hg:∀ e oe,Gl (tO X e oe) "_law_refused":=by intro _ _;rfl) (hde:(en == ("__debug__" : Str))=false:=by decide) (hce:(en == ("__classdict__" : Str))=false:=by decide)
  (he:starEach [.Name en p1] X.env=(false,eval (.Name en p1) X.env)::starEach [] X.env:=by rfl) (hpl:(backTo pos (starEach [] X.env)).any (·.1)=false:=by rfl) :
  qD X i [.Return (some (.Call (.Name "_law_refused" p) [.Name en p1] [] pos)) rp] C_ClockError qm:=by
 have dd:=S.d
 have ap:∀ {a b:Addr} (i j:Nat),i<j->[C_NoRecord,C_NoEvent,C_NoNumber,C_NoWorld,C_Barred,C_Nothing,C_ClockError][i]? =some a->[C_NoRecord,C_NoEvent,C_NoNumber,C_NoWorld,C_Barred,C_Nothing,C_ClockError][j]? =some b->a≠b:=fun {a b} i j hij ha hb z=>by
  have:=(List.getElem?_inj (List.getElem?_eq_some_iff.mp ha).1 dd).mp (ha.trans (z▸hb.symm))
  omega
 have hin:∀ C:Addr,(Value.ref C:: .ref C_ClockError::lH).contains (.ref C_ClockError)=true:=fun C=>by rw [List.contains_cons,List.contains_cons,beq_self_eq_true,Bool.true_or,Bool.or_true]
 have n_NoRecord:C_ClockError≠C_NoRecord:=(Ne.symm (ap 0 6 (by decide) rfl rfl))
 have n_NoEvent:C_ClockError≠C_NoEvent:=(Ne.symm (ap 1 6 (by decide) rfl rfl))
 have n_NoNumber:C_ClockError≠C_NoNumber:=(Ne.symm (ap 2 6 (by decide) rfl rfl))
 have n_NoWorld:C_ClockError≠C_NoWorld:=(Ne.symm (ap 3 6 (by decide) rfl rfl))
 have n_Barred:C_ClockError≠C_Barred:=(Ne.symm (ap 4 6 (by decide) rfl rfl))
 have n_Nothing:C_ClockError≠C_Nothing:=(Ne.symm (ap 5 6 (by decide) rfl rfl))
 intro c C t hm ht
 unfold qm at ht
 by_cases z0:c= "NoRecord"
 ·rw [if_pos z0]at ht
  cases ht
  rw [z0,S.m_NoRecord]at hm
  cases hm
  &⟨_,S.o_NoRecord,hin _,fun e oe ev hc hd pins s σ H O Q I hH hf hσ hO q=> ?_⟩
  #fJ (iH (eO hN hv Fn_ S S.o_NoRecord hc hd hi hvv n_NoRecord n_NoEvent n_NoNumber n_NoWorld n_Barred n_Nothing (b0:=true) (b1:=false) (b2:=false) (b3:=false) (b4:=false) (b5:=false) (by simp) (by rw [decide_eq_false (ap 0 1 (by decide) rfl rfl)]) (by rw [decide_eq_false (ap 0 2 (by decide) rfl rfl)]) (by rw [decide_eq_false (ap 0 3 (by decide) rfl rfl)]) (by rw [decide_eq_false (ap 0 4 (by decide) rfl rfl)]) (by rw [decide_eq_false (ap 0 5 (by decide) rfl rfl)]) (by decide) (j:=0) rfl (fun m hm=>by omega) hr (hg e oe) hde hce he hpl)) pins s σ H _ I ⟨hσ,hH,hf,fun p H' sm hp h=>q _ _ sm (je hO hp h)⟩
 rw [if_neg z0]at ht
 by_cases z1:c= "NoEvent"
 ·rw [if_pos z1]at ht
  cases ht
  rw [z1,S.m_NoEvent]at hm
  cases hm
  &⟨_,S.o_NoEvent,hin _,fun e oe ev hc hd pins s σ H O Q I hH hf hσ hO q=> ?_⟩
  #fJ (iH (eO hN hv Fn_ S S.o_NoEvent hc hd hi hvv n_NoRecord n_NoEvent n_NoNumber n_NoWorld n_Barred n_Nothing (b0:=false) (b1:=true) (b2:=false) (b3:=false) (b4:=false) (b5:=false) (by rw [decide_eq_false (Ne.symm (ap 0 1 (by decide) rfl rfl))]) (by simp) (by rw [decide_eq_false (ap 1 2 (by decide) rfl rfl)]) (by rw [decide_eq_false (ap 1 3 (by decide) rfl rfl)]) (by rw [decide_eq_false (ap 1 4 (by decide) rfl rfl)]) (by rw [decide_eq_false (ap 1 5 (by decide) rfl rfl)]) (by decide) (j:=1) rfl (fun m hm=>by match m,hm with | 0,_=>rfl) hr (hg e oe) hde hce he hpl)) pins s σ H _ I ⟨hσ,hH,hf,fun p H' sm hp h=>q _ _ sm (je hO hp h)⟩
 rw [if_neg z1]at ht
 by_cases z2:c= "NoNumber"
 ·rw [if_pos z2]at ht
  cases ht
  rw [z2,S.m_NoNumber]at hm
  cases hm
  &⟨_,S.o_NoNumber,hin _,fun e oe ev hc hd pins s σ H O Q I hH hf hσ hO q=> ?_⟩
  #fJ (iH (eO hN hv Fn_ S S.o_NoNumber hc hd hi hvv n_NoRecord n_NoEvent n_NoNumber n_NoWorld n_Barred n_Nothing (b0:=false) (b1:=false) (b2:=true) (b3:=false) (b4:=false) (b5:=false) (by rw [decide_eq_false (Ne.symm (ap 0 2 (by decide) rfl rfl))]) (by rw [decide_eq_false (Ne.symm (ap 1 2 (by decide) rfl rfl))]) (by simp) (by rw [decide_eq_false (ap 2 3 (by decide) rfl rfl)]) (by rw [decide_eq_false (ap 2 4 (by decide) rfl rfl)]) (by rw [decide_eq_false (ap 2 5 (by decide) rfl rfl)]) (by decide) (j:=2) rfl (fun m hm=>by match m,hm with | 0,_=>rfl | 1,_=>rfl) hr (hg e oe) hde hce he hpl)) pins s σ H _ I ⟨hσ,hH,hf,fun p H' sm hp h=>q _ _ sm (je hO hp h)⟩
 rw [if_neg z2]at ht
 by_cases z3:c= "NoWorld"
 ·rw [if_pos z3]at ht
  cases ht
  rw [z3,S.m_NoWorld]at hm
  cases hm
  &⟨_,S.o_NoWorld,hin _,fun e oe ev hc hd pins s σ H O Q I hH hf hσ hO q=> ?_⟩
  #fJ (iH (eO hN hv Fn_ S S.o_NoWorld hc hd hi hvv n_NoRecord n_NoEvent n_NoNumber n_NoWorld n_Barred n_Nothing (b0:=false) (b1:=false) (b2:=false) (b3:=true) (b4:=false) (b5:=false) (by rw [decide_eq_false (Ne.symm (ap 0 3 (by decide) rfl rfl))]) (by rw [decide_eq_false (Ne.symm (ap 1 3 (by decide) rfl rfl))]) (by rw [decide_eq_false (Ne.symm (ap 2 3 (by decide) rfl rfl))]) (by simp) (by rw [decide_eq_false (ap 3 4 (by decide) rfl rfl)]) (by rw [decide_eq_false (ap 3 5 (by decide) rfl rfl)]) (by decide) (j:=3) rfl (fun m hm=>by match m,hm with | 0,_=>rfl | 1,_=>rfl | 2,_=>rfl) hr (hg e oe) hde hce he hpl)) pins s σ H _ I ⟨hσ,hH,hf,fun p H' sm hp h=>q _ _ sm (je hO hp h)⟩
 rw [if_neg z3]at ht
 by_cases z4:c= "Barred"
 ·rw [if_pos z4]at ht
  cases ht
  rw [z4,S.m_Barred]at hm
  cases hm
  &⟨_,S.o_Barred,hin _,fun e oe ev hc hd pins s σ H O Q I hH hf hσ hO q=> ?_⟩
  #fJ (iH (eO hN hv Fn_ S S.o_Barred hc hd hi hvv n_NoRecord n_NoEvent n_NoNumber n_NoWorld n_Barred n_Nothing (b0:=false) (b1:=false) (b2:=false) (b3:=false) (b4:=true) (b5:=false) (by rw [decide_eq_false (Ne.symm (ap 0 4 (by decide) rfl rfl))]) (by rw [decide_eq_false (Ne.symm (ap 1 4 (by decide) rfl rfl))]) (by rw [decide_eq_false (Ne.symm (ap 2 4 (by decide) rfl rfl))]) (by rw [decide_eq_false (Ne.symm (ap 3 4 (by decide) rfl rfl))]) (by simp) (by rw [decide_eq_false (ap 4 5 (by decide) rfl rfl)]) (by decide) (j:=4) rfl (fun m hm=>by match m,hm with | 0,_=>rfl | 1,_=>rfl | 2,_=>rfl | 3,_=>rfl) hr (hg e oe) hde hce he hpl)) pins s σ H _ I ⟨hσ,hH,hf,fun p H' sm hp h=>q _ _ sm (je hO hp h)⟩
 rw [if_neg z4]at ht
 by_cases z5:c= "Nothing"
 ·rw [if_pos z5]at ht
  cases ht
  rw [z5,S.m_Nothing]at hm
  cases hm
  &⟨_,S.o_Nothing,hin _,fun e oe ev hc hd pins s σ H O Q I hH hf hσ hO q=> ?_⟩
  #fJ (iH (eO hN hv Fn_ S S.o_Nothing hc hd hi hvv n_NoRecord n_NoEvent n_NoNumber n_NoWorld n_Barred n_Nothing (b0:=false) (b1:=false) (b2:=false) (b3:=false) (b4:=false) (b5:=true) (by rw [decide_eq_false (Ne.symm (ap 0 5 (by decide) rfl rfl))]) (by rw [decide_eq_false (Ne.symm (ap 1 5 (by decide) rfl rfl))]) (by rw [decide_eq_false (Ne.symm (ap 2 5 (by decide) rfl rfl))]) (by rw [decide_eq_false (Ne.symm (ap 3 5 (by decide) rfl rfl))]) (by rw [decide_eq_false (Ne.symm (ap 4 5 (by decide) rfl rfl))]) (by simp) (by decide) (j:=5) rfl (fun m hm=>by match m,hm with | 0,_=>rfl | 1,_=>rfl | 2,_=>rfl | 3,_=>rfl | 4,_=>rfl) hr (hg e oe) hde hce he hpl)) pins s σ H _ I ⟨hσ,hH,hf,fun p H' sm hp h=>q _ _ sm (je hO hp h)⟩
 rw [if_neg z5]at ht
 cases ht
end
end G
namespace G
open PySem Tr
def fz:En->Rs Fl:=
 (ax (eI (tb (o2 il (vr 0) (b7 ah))) (aL (o2 ba (cn (.int 7)) (vr 1))) sN) (aL (o2 aH (o2 aN (vr 0) (o2 fh (vr 1) (cl bL (ac (vr 0) ah)))) (o2 ba (cn (.int 6553)) (o2 iV (vr 1) (cl bL (ac (vr 0) ah)))))))
def fo:List T->Rs T:=val 2 2 fz
def eE:En->Rs Fl:=
 (ax (bQ (o2 fh (o2 aH (o2 ba (o2 fh (cl fo (ac (vr 0) (ac (vr 1) ah))) (cn (.int 2147483563))) (cn (.int 69069))) (o2 ba (cn (.int 104723)) (o2 aH (vr 1) (cn (.int 1))))) (cn (.int 2147483563))) (gN 3)) (ax (bQ (o2 fh (o2 aH (o2 ba (vr 3) (vr 3)) (o2 iV (vr 3) (cn (.int 3)))) (cn (.int 2147483399))) (gN 3)) (aL (o2 fh (o2 iV (o2 fh (o2 aH (o2 ba (vr 3) (vr 3)) (o2 iV (vr 3) (cn (.int 7)))) (cn (.int 2147483647))) (cn (.int 11))) (vr 2)))))
def ar:List T->Rs T:=val 3 4 eE
def fg:En->Rs Fl:=
 (ax (bQ (b7 ah) (gN 1)) (ax (dA (iE (ac (vr 0) ah)) (gT 2 (dO (gN 2) (dO (gN 3) lm))) (bQ (o2 aH (vr 1) (dv (iR (ac (cl bL (ac (o2 aN (vr 3) (cn (.int 2))) ah)) ah)) [none,some 2] (gN 0) bT (aW (ac (vr 1) (ac (vr 0) ah))))) (gN 1))) (aL (vr 1))))
def cy:List T->Rs T:=val 1 4 fg
def cE:En->Rs Fl:=
 (ax (bQ (cl cy (ac (vr 2) ah)) (gN 3)) (ax (eI (tb (o2 mS (cl bL (ac (vr 3) ah)) (cn (.int 2)))) (aL (cn .non)) sN) (ax (bQ (cl ar (ac (vr 0) (ac (vr 1) (ac (cl bL (ac (vr 3) ah)) ah)))) (gN 4)) (ax (bQ (o2 fh (o2 aH (o2 aH (vr 4) (cn (.int 1))) (cl ar (ac (vr 0) (ac (o2 aH (vr 1) (cn (.int 1))) (ac (o2 cQ (cl bL (ac (vr 3) ah)) (cn (.int 1))) ah))))) (cl bL (ac (vr 3) ah))) (gN 5)) (ax (bQ (cl ar (ac (vr 0) (ac (o2 aH (vr 1) (cn (.int 2))) (ac (cn (.int 8)) ah)))) (gN 6)) (ax (bQ (ifE (tb (o2 il (cl ar (ac (vr 0) (ac (o2 aH (vr 1) (cn (.int 3))) (ac (cn (.int 3)) ah)))) (cn (.int 0)))) (cn .non) (o2 aH (vr 6) (cl ar (ac (vr 0) (ac (o2 aH (vr 1) (cn (.int 4))) (ac (cn (.int 9)) ah)))))) (gN 7)) (aL (aW (ac (o2 aN (vr 3) (vr 4)) (ac (o2 aN (vr 3) (vr 5)) (ac (vr 6) (ac (vr 7) ah))))))))))))
def cT:List T->Rs T:=val 3 8 cE
def eF:En->Rs Fl:=
 (ax (bQ (o2 aH (cn (.int 1)) (cl ar (ac (vr 0) (ac (vr 1) (ac (cn (.int 3)) ah))))) (gN 2)) (ax (bQ (aW (ac (cl ar (ac (vr 0) (ac (o2 aH (vr 1) (cn (.int 2))) (ac (cn (.int 6)) ah)))) ah)) (gN 3)) (ax (dA (iR (ac (cl ar (ac (vr 0) (ac (o2 aH (vr 1) (cn (.int 1))) (ac (cn (.int 3)) ah)))) ah)) (gN 4) (bQ (o2 aH (vr 3) (aW (ac (o2 aH (o2 aH (o2 aN (vr 3) (o1 kO (cn (.int 1)))) (cn (.int 1))) (cl ar (ac (vr 0) (ac (o2 aH (o2 aH (vr 1) (cn (.int 3))) (vr 4)) (ac (cn (.int 5)) ah))))) ah))) (gN 3))) (aL (aW (ac (vr 2) (ac (o2 aH (vr 2) (cl ar (ac (vr 0) (ac (o2 aH (vr 1) (cn (.int 6))) (ac (cn (.int 3)) ah))))) (ac (vr 3) ah))))))))
def cj:List T->Rs T:=val 2 5 eF
def dH:En->Rs Fl:=
 (ax (bQ (cl jL (ac (dv (iR (ac (o2 aH (cn (.int 1)) (cl ar (ac (vr 0) (ac (vr 1) (ac (cn (.int 3)) ah))))) ah)) [none,some 0,some 1] (gN 0) bT (cl cj (ac (vr 1) (ac (o2 aH (o2 aH (vr 2) (cn (.int 1))) (o2 ba (cn (.int 8)) (vr 0))) ah)))) ah)) (gN 3)) (ax (bQ (b7 ah) (gN 4)) (ax (dA (iR (ac (cl ar (ac (vr 0) (ac (o2 aH (vr 1) (cn (.int 30))) (ac (o2 aH (vr 2) (cn (.int 1))) ah)))) ah)) (gN 5) (ax (bQ (cl cT (ac (vr 0) (ac (o2 aH (o2 aH (vr 1) (cn (.int 31))) (o2 ba (cn (.int 6)) (vr 5))) (ac (vr 3) ah)))) (gN 6)) (bQ (o2 aH (vr 4) (o2 ba (b7 (ac (vr 6) ah)) (cl yn (ac (o2 eK (vr 6) (cn .non)) ah)))) (gN 4)))) (aL (aW (ac (vr 3) (ac (cl jL (ac (vr 4) ah)) ah)))))))
def eY:List T->Rs T:=val 3 7 dH
def dI:En->Rs Fl:=
 (ax (iF 1 ah) (ax (dA (iE (ac (o2 aN (vr 0) (cn (.int 0))) ah)) (gT 2 (dO (gN 2) (dO (gT 3 (dO (gN 3) (dO (gN 4) (dO (gN 5) lm)))) lm))) (dA (iR (ac (cn (.int 1)) (ac (cl bL (ac (vr 5) ah)) ah))) (gN 6) (ax (bQ (o2 cQ (o2 aN (vr 5) (vr 6)) (o2 aN (vr 5) (o2 cQ (vr 6) (cn (.int 1))))) (gN 7)) (ax (ip 1 (aW (ac (aW (ac (vr 2) (ac (o2 cQ (vr 6) (cn (.int 1))) ah))) (ac (aW (ac (vr 2) (ac (vr 6) ah))) (ac (o2 ba (vr 4) (vr 7)) ah))))) (ip 1 (aW (ac (aW (ac (vr 2) (ac (vr 6) ah))) (ac (aW (ac (vr 2) (ac (o2 cQ (vr 6) (cn (.int 1))) ah))) (ac (o2 cQ (cn (.int 0)) (o2 ba (vr 3) (vr 7))) ah))))))))) (ax (dA (iS (o2 aN (vr 0) (cn (.int 1)))) (gT 4 (dO (gN 8) (dO (gN 9) (dO (gN 10) (dO (gN 11) lm))))) (ax (ip 1 (aW (ac (vr 9) (ac (vr 8) (ac (o2 cQ (cn (.int 0)) (vr 10)) ah))))) (eI (tb (o2 eK (vr 11) (cn .non))) (ip 1 (aW (ac (vr 8) (ac (vr 9) (ac (vr 11) ah))))) sN))) (lx 1 (aL (vr 1))))))
def eZ:List T->Rs T:=val 1 12 dI
def jx:En->Rs Fl:=
 (aL (cY (o1 (nS "tuple") (vr 0)) (ch leT leT (vr 1) (cl bL (ac (vr 0) ah)) (vr 2))))
def aJ:List T->Rs T:=val 3 3 jx
def jV:En->Rs Fl:=
 (aL (cY (o1 (nS "int") (vr 0)) (o1 notV (o1 (nS "bool") (vr 0)))))
def dN:List T->Rs T:=val 1 1 jV
def i8:En->Rs Fl:=
 (aL (cY (cl dN (ac (vr 0) ah)) (ch leT leT (vr 1) (vr 0) (vr 2))))
def a6:List T->Rs T:=val 3 3 i8
def gR:En->Rs Fl:=
 (aL (cY (cl a6 (ac (vr 0) (ac (cn (.int 1)) (ac (cn (.int 9)) ah)))) (cl a6 (ac (vr 1) (ac (vr 0) (ac (cn (.int 9)) ah))))))
def fN:List T->Rs T:=val 2 2 gR
def lS:En->Rs Fl:=
 (aL (cl nN (ac (dv (iR (ac (o2 cQ (cl bL (ac (vr 0) ah)) (cn (.int 1))) ah)) [none,some 0] (gN 0) bT (o2 mS (o2 aN (vr 1) (vr 0)) (o2 aN (vr 1) (o2 aH (vr 0) (cn (.int 1)))))) ah)))
def jk:List T->Rs T:=val 1 1 lS
def cK:En->Rs Fl:=
 (ax (eI (du (tb (cl aJ (ac (vr 0) (ac (cn (.int 1)) (ac (cn (.int 4)) ah)))))) (aL (cn (.bl false))) sN) (aL (cY (cl nN (ac (dv (iS (vr 0)) [none] (gN 0) bT (cl a6 (ac (vr 0) (ac (cn (.int 0)) (ac (cn (.int 99)) ah))))) ah)) (cl jk (ac (vr 0) ah)))))
def bN:List T->Rs T:=val 1 1 cK
def eV:En->Rs Fl:=
 (aL (cY (cl aJ (ac (vr 0) (ac (cn (.int 3)) (ac (cn (.int 3)) ah)))) (cY (cl fN (ac (o2 aN (vr 0) (cn (.int 0))) (ac (o2 aN (vr 0) (cn (.int 1))) ah))) (cl bN (ac (o2 aN (vr 0) (cn (.int 2))) ah)))))
def dg:List T->Rs T:=val 1 1 eV
def ef:En->Rs Fl:=
 (aL (cY (cl aJ (ac (vr 0) (ac (cn (.int 1)) (ac (cn (.int 4)) ah)))) (cl nN (ac (dv (iS (vr 0)) [none] (gN 0) bT (cl dg (ac (vr 0) ah))) ah))))
def dm:List T->Rs T:=val 1 1 ef
def jW:En->Rs Fl:=
 (ax (eI (kF (du (tb (cl aJ (ac (vr 1) (ac (cn (.int 2)) (ac (cn (.int 2)) ah)))))) (du (tb (cl a6 (ac (o2 aN (vr 1) (cn (.int 0))) (ac (cn (.int 0)) (ac (o2 cQ (cl bL (ac (vr 0) ah)) (cn (.int 1))) ah))))))) (aL (cn (.bl false))) sN) (aL (cl a6 (ac (o2 aN (vr 1) (cn (.int 1))) (ac (cn (.int 0)) (ac (o2 cQ (cl bL (ac (o2 aN (o2 aN (vr 0) (o2 aN (vr 1) (cn (.int 0)))) (cn (.int 2))) ah)) (cn (.int 1))) ah))))))
def gc:List T->Rs T:=val 2 2 jW
def jX:En->Rs Fl:=
 (aL (cY (cl a6 (ac (vr 0) (ac (cn (.int 0)) (ac (cn (.int 999)) ah)))) (orV (o2 gf (vr 1) (cn .non)) (cl a6 (ac (vr 1) (ac (vr 0) (ac (cn (.int 999)) ah)))))))
def g9:List T->Rs T:=val 2 2 jX
def ja:En->Rs Fl:=
 (ax (eI (kF (du (tb (cl aJ (ac (vr 1) (ac (cn (.int 4)) (ac (cn (.int 4)) ah)))))) (du (tb (cl g9 (ac (o2 aN (vr 1) (cn (.int 2))) (ac (o2 aN (vr 1) (cn (.int 3))) ah)))))) (aL (cn (.bl false))) sN) (aL (cY (cl gc (ac (vr 0) (ac (o2 aN (vr 1) (cn (.int 0))) ah))) (cY (cl gc (ac (vr 0) (ac (o2 aN (vr 1) (cn (.int 1))) ah))) (o2 lz (o2 aN (vr 1) (cn (.int 0))) (o2 aN (vr 1) (cn (.int 1))))))))
def fm:List T->Rs T:=val 2 2 ja
def dG:En->Rs Fl:=
 (aL (cY (cl aJ (ac (vr 1) (ac (cn (.int 0)) (ac (cn (.int 8)) ah)))) (cl nN (ac (dv (iS (vr 1)) [none,some 0] (gN 0) bT (cl fm (ac (vr 1) (ac (vr 0) ah)))) ah))))
def cS:List T->Rs T:=val 2 2 dG
def i9:En->Rs Fl:=
 (aL (cY (cl aJ (ac (vr 0) (ac (cn (.int 2)) (ac (cn (.int 2)) ah)))) (cY (cl dm (ac (o2 aN (vr 0) (cn (.int 0))) ah)) (cl cS (ac (o2 aN (vr 0) (cn (.int 0))) (ac (o2 aN (vr 0) (cn (.int 1))) ah))))))
def gq:List T->Rs T:=val 1 1 i9
def cC:En->Rs Fl:=
 (eI (du (tb (cl gq (ac (vr 0) ah)))) (sErr "NoRecord") sN)
def cw:List T->Rs T:=val 1 1 cC
def cr:En->Rs Fl:=
 (ax (bQ (o2 aN (vr 1) (cn (.int 2))) (gN 2)) (ax (iF 3 ah) (ax (dA (iR (ac (o2 cQ (cl bL (ac (vr 2) ah)) (cn (.int 1))) ah)) (gN 4) (ax (bQ (aW (ac (vr 0) (ac (vr 4) ah))) (gN 5)) (ax (bQ (aW (ac (vr 0) (ac (o2 aH (vr 4) (cn (.int 1))) ah))) (gN 6)) (ax (bQ (o2 cQ (o2 aN (vr 2) (o2 aH (vr 4) (cn (.int 1)))) (o2 aN (vr 2) (vr 4))) (gN 7)) (ax (ip 3 (aW (ac (vr 5) (ac (vr 6) (ac (o2 ba (vr 7) (o2 aN (vr 1) (cn (.int 1)))) ah))))) (ip 3 (aW (ac (vr 6) (ac (vr 5) (ac (o2 ba (o1 kO (vr 7)) (o2 aN (vr 1) (cn (.int 0)))) ah)))))))))) (lx 3 (aL (vr 3))))))
def cf:List T->Rs T:=val 2 8 cr
def b8:En->Rs Fl:=
 (ax (iF 1 (ac (aW (ac (o2 aN (vr 0) (cn (.int 1))) (ac (o2 aN (vr 0) (cn (.int 0))) (ac (o1 kO (o2 aN (vr 0) (cn (.int 2)))) ah)))) ah)) (ax (eI (tb (o2 eK (o2 aN (vr 0) (cn (.int 3))) (cn .non))) (ip 1 (aW (ac (o2 aN (vr 0) (cn (.int 0))) (ac (o2 aN (vr 0) (cn (.int 1))) (ac (o2 aN (vr 0) (cn (.int 3))) ah))))) sN) (lx 1 (aL (vr 1)))))
def b6:List T->Rs T:=val 1 2 b8
def gj:En->Rs Fl:=
 (ax (sEx (cl cw (ac (vr 0) ah))) (ax (iF 1 ah) (ax (dA (iE (ac (o2 aN (vr 0) (cn (.int 0))) ah)) (gT 2 (dO (gN 2) (dO (gN 3) lm))) (mn 1 (cl cf (ac (vr 2) (ac (vr 3) ah))))) (ax (dA (iS (o2 aN (vr 0) (cn (.int 1)))) (gN 4) (mn 1 (cl b6 (ac (vr 4) ah)))) (lx 1 (aL (vr 1)))))))
def dD:List T->Rs T:=val 1 5 gj
def gI:En->Rs Fl:=
 (aL (cY (cl aJ (ac (vr 0) (ac (cn (.int 2)) (ac (cn (.int 2)) ah)))) (cY (cl dN (ac (o2 aN (vr 0) (cn (.int 0))) ah)) (cY (cl dN (ac (o2 aN (vr 0) (cn (.int 1))) ah)) (o2 gtT (o2 aN (vr 0) (cn (.int 1))) (cn (.int 0)))))))
def dC:List T->Rs T:=val 1 1 gI
def dF:En->Rs Fl:=
 (aL (cY (o1 (nS "list") (vr 1)) (cl nN (ac (dv (iS (vr 1)) [none,some 0] (gN 0) bT (cl a6 (ac (vr 0) (ac (cn (.int 0)) (ac (o2 cQ (cl bL (ac (vr 1) ah)) (cn (.int 1))) ah))))) ah))))
def cx:List T->Rs T:=val 2 2 dF
def ie:En->Rs Fl:=
 (ax (eI (du (tb (cl cx (ac (vr 0) (ac (vr 3) ah))))) (aL (cn (.bl false))) sN) (ax (bQ (vr 1) (gN 4)) (ax (dA (iS (vr 3)) (gN 5) (ax (eI (tb (o2 lz (o2 aN (o2 aN (vr 0) (vr 5)) (cn (.int 0))) (vr 4))) (aL (cn (.bl false))) sN) (bQ (o2 aN (o2 aN (vr 0) (vr 5)) (cn (.int 1))) (gN 4)))) (aL (o2 il (vr 4) (vr 2))))))
def kq:List T->Rs T:=val 4 6 ie
def dE:En->Rs Fl:=
 (ax (eI (kF (du (tb (cl cx (ac (vr 0) (ac (vr 1) ah))))) (tb (o2 il (vr 1) (b7 ah)))) (aL (cn (.bl false))) sN) (ax (bQ (o2 aN (o2 aN (vr 0) (o2 aN (vr 1) (cn (.int 0)))) (cn (.int 0))) (gN 2)) (aL (cl kq (ac (vr 0) (ac (vr 2) (ac (vr 2) (ac (vr 1) ah))))))))
def dB:List T->Rs T:=val 2 3 dE
def i7:En->Rs Fl:=
 (aL (cl sO (ac (dv (iS (vr 1)) [none,some 0] (gN 0) bT (o2 aN (o2 aN (vr 1) (vr 0)) (cn (.int 2)))) ah)))
def dZ:List T->Rs T:=val 2 2 i7
def cP:En->Rs Fl:=
 (ax (bQ (cl dD (ac (vr 0) ah)) (gN 3)) (ax (eI (kF (du (tb (cl dC (ac (vr 1) ah)))) (du (tb (cl dB (ac (vr 3) (ac (vr 2) ah)))))) (aL (cn (.bl false))) sN) (aL (o2 leT (o2 ba (cl dZ (ac (vr 3) (ac (vr 2) ah))) (o2 aN (vr 1) (cn (.int 1)))) (o2 ba (o2 aN (vr 1) (cn (.int 0))) (cl bL (ac (vr 2) ah)))))))
def cb:List T->Rs T:=val 3 4 cP
def jb:En->Rs Fl:=
 (ax (sEx (cl cw (ac (vr 0) ah))) (ax (iF 1 ah) (ax (dA (iE (ac (o2 aN (vr 0) (cn (.int 0))) ah)) (gT 2 (dO (gN 2) (dO (gN 3) lm))) (mn 1 (dv (iR (ac (cl bL (ac (o2 aN (vr 3) (cn (.int 2))) ah)) ah)) [none,some 2] (gN 0) bT (aW (ac (vr 1) (ac (vr 0) ah)))))) (lx 1 (aL (vr 1))))))
def iN:List T->Rs T:=val 1 4 jb
def fy:En->Rs Fl:=
 (ax (bQ (oD im (vr 0) (o2 aN (vr 1) (cn (.int 1)))) (gN 3)) (aL (orV (o2 gf (vr 3) (cn .non)) (o2 mS (o2 aH (o2 aN (vr 2) (cn (.int 0))) (o2 aN (vr 1) (cn (.int 2)))) (o2 aN (vr 3) (cn (.int 0)))))))
def dh:List T->Rs T:=val 3 4 fy
def gh:En->Rs Fl:=
 (ax (oC 2 (dv (iS (vr 1)) [none] (gN 0) bT (aW (ac (vr 0) (ac (aW (ac (cn (.int 0)) (ac (b7 ah) ah))) ah))))) (ax (bQ (cn (.bl true)) (gN 3)) (ax (bv (tb (vr 3)) (ax (bQ (cn (.bl false)) (gN 3)) (dA (iE (ac (vr 0) ah)) (gT 2 (dO (gN 4) (dO (gN 5) lm))) (ax (bQ (ln 2 (oD im (vr 2) (o2 aN (vr 5) (cn (.int 0))))) (gN 6)) (ax (eI (kF (tb (o2 gf (vr 6) (cn .non))) (du (lnB 2 (tb (cl dh (ac (vr 2) (ac (vr 5) (ac (vr 6) ah)))))))) sCt sN) (ax (bQ (o2 aH (o2 aN (vr 6) (cn (.int 1))) (b7 (ac (vr 4) ah))) (gN 7)) (ax (bQ (dv (iS (vr 7)) [none,some 0] (gN 0) bT (o2 aN (o2 aN (vr 1) (vr 0)) (cn (.int 0)))) (gN 8)) (ax (eI (tb (o2 inT (o2 aN (vr 5) (cn (.int 1))) (vr 8))) (aL (aW (ac (cn .non) (ac (sl (vr 7) (pS (oL gt (vr 8) (o2 aN (vr 5) (cn (.int 1))))) pN) ah)))) sN) (ax (vo 2 (o2 aN (vr 5) (cn (.int 1))) (aW (ac (o2 aH (o2 aN (vr 6) (cn (.int 0))) (o2 aN (vr 5) (cn (.int 2)))) (ac (vr 7) ah)))) (bQ (cn (.bl true)) (gN 3)))))))))) FU) (lx 2 (aL (aW (ac (vr 2) (ac (cn .non) ah))))))))
def d6:List T->Rs T:=val 2 9 gh
def gi:En->Rs Fl:=
 (aL (dv (iS (vr 0)) [none,some 2,some 1] (gN 0) bT (aW (ac (o2 aN (vr 0) (cn (.int 0))) (ac (o2 aN (vr 0) (cn (.int 1))) (ac (o2 cQ (o2 ba (o2 aN (vr 0) (cn (.int 2))) (vr 1)) (vr 2)) ah))))))
def eQ:List T->Rs T:=val 3 3 gi
def cA:En->Rs Fl:=
 (ax (bQ (cl dD (ac (vr 0) ah)) (gN 1)) (ax (bQ (cl iN (ac (vr 0) ah)) (gN 2)) (ax (bQ (cn .non) (gN 3)) (ax (bQ (o2 aN (cl d6 (ac (cl eQ (ac (vr 1) (ac (cn (.int 1)) (ac (cn (.int 0)) ah)))) (ac (vr 2) ah))) (cn (.int 1))) (gN 4)) (ax (bv (tb (o2 eK (vr 4) (cn .non))) (ax (bQ (vr 4) (gN 3)) (bQ (o2 aN (cl d6 (ac (cl eQ (ac (vr 1) (ac (cl dZ (ac (vr 1) (ac (vr 3) ah))) (ac (cl bL (ac (vr 3) ah)) ah)))) (ac (vr 2) ah))) (cn (.int 1))) (gN 4))) FU) (aL (vr 3)))))))
def bn:List T->Rs T:=val 1 5 cA
def cq:En->Rs Fl:=
 (ax (bQ (cl maxT (ac (dv (iR (ac (cn (.int 1)) (ac (o2 aH (vr 1) (cn (.int 1))) ah))) [none,some 0,some 1] (gN 0) (jT (tb (o2 il (o2 fh (vr 1) (vr 0)) (cn (.int 0)))) (tb (o2 il (o2 fh (vr 2) (vr 0)) (cn (.int 0))))) (vr 0)) ah)) (gN 2)) (aL (aW (ac (o2 iV (vr 0) (vr 2)) (ac (o2 iV (vr 1) (vr 2)) ah)))))
def cZ:List T->Rs T:=val 2 3 cq
def jU:En->Rs Fl:=
 (ax (bQ (cl bn (ac (vr 0) ah)) (gN 1)) (ax (eI (tb (o2 gf (vr 1) (cn .non))) (aL (cn .non)) sN) (aL (cl cZ (ac (cl dZ (ac (cl dD (ac (vr 0) ah)) (ac (vr 1) ah))) (ac (cl bL (ac (vr 1) ah)) ah))))))
def iM:List T->Rs T:=val 1 2 jU
def jc:En->Rs Fl:=
 (re (ax (eI (tb (o2 mS (vr 0) (cn (.int 2)))) (aL (vk [iM,bn] (vr 0) (ac (vr 1) ah))) sN) (aL (cl cb (ac (vr 1) (ac (aW (ac (cn (.int 0)) (ac (cn (.int 1)) ah))) (ac (vr 2) ah)))))) qm)
def bX:List T->Rs T:=val 3 4 jc
def eh:En->Rs Fl:=
 (ax (mm 2 0) (ax (dA (iS (vr 0)) (gN 3) (ii 2 (vr 3) (vr 3) (cn (.int 0)))) (ax (dA (iS (vr 1)) (gT 3 (dO (gN 3) (dO (gN 4) (dO (gN 5) lm)))) (eI (kF (tb (o2 gf (ln 2 (o2 bD (o2 bD (vr 2) (vr 3)) (vr 4))) (cn .non))) (tb (o2 mS (vr 5) (ln 2 (o2 bD (o2 bD (vr 2) (vr 3)) (vr 4)))))) (ii 2 (vr 3) (vr 4) (vr 5)) sN)) (ax (dA (iS (vr 0)) (gN 6) (dA (iS (vr 0)) (gN 3) (dA (iS (vr 0)) (gN 4) (eI (jT (tb (o2 eK (ln 2 (o2 bD (o2 bD (vr 2) (vr 3)) (vr 6))) (cn .non))) (tb (o2 eK (ln 2 (o2 bD (o2 bD (vr 2) (vr 6)) (vr 4))) (cn .non)))) (ax (bQ (o2 aH (ln 2 (o2 bD (o2 bD (vr 2) (vr 3)) (vr 6))) (ln 2 (o2 bD (o2 bD (vr 2) (vr 6)) (vr 4)))) (gN 7)) (eI (kF (tb (o2 gf (ln 2 (o2 bD (o2 bD (vr 2) (vr 3)) (vr 4))) (cn .non))) (tb (o2 mS (vr 7) (ln 2 (o2 bD (o2 bD (vr 2) (vr 3)) (vr 4)))))) (ii 2 (vr 3) (vr 4) (vr 7)) sN)) sN)))) (lx 2 (aL (ifE (tb (o2 il (dv (iS (vr 0)) [none,some 2] (gN 0) (tb (o2 mS (o2 bD (o2 bD (vr 1) (vr 0)) (vr 0)) (cn (.int 0)))) (vr 0)) (b7 ah))) (vr 2) (cn .non))))))))
def cg:List T->Rs T:=val 2 8 eh
def eC:En->Rs Fl:=
 (ax (eI (kF (du (tb (o1 (nS "list") (vr 1)))) (tb (o2 il (vr 1) (b7 ah)))) (aL (cn (.bl false))) sN) (ax (dA (iS (vr 1)) (gN 2) (eI (kF (du (tb (o1 (nS "int") (vr 2)))) (kF (tb (o1 (nS "bool") (vr 2))) (du (tb (ch leT mS (cn (.int 0)) (vr 2) (cl bL (ac (vr 0) ah))))))) (aL (cn (.bl false))) sN)) (aL (o2 il (dv (iR (ac (cl bL (ac (vr 1) ah)) ah)) [none,some 0,some 1] (gN 0) (tb (o2 lz (o2 aN (o2 aN (vr 1) (o2 aN (vr 2) (o2 cQ (vr 0) (cn (.int 1))))) (cn (.int 1))) (o2 aN (o2 aN (vr 1) (o2 aN (vr 2) (vr 0))) (cn (.int 0))))) (vr 0)) (b7 ah)))))
def ci:List T->Rs T:=val 2 3 eC
def ez:En->Rs Fl:=
 (ax (eI (du (tb (cl ci (ac (vr 0) (ac (vr 2) ah))))) (aL (cn (.bl false))) sN) (aL (o2 leT (o2 ba (cl sO (ac (dv (iS (vr 2)) [none,some 0] (gN 0) bT (o2 aN (o2 aN (vr 1) (vr 0)) (cn (.int 2)))) ah)) (o2 aN (vr 1) (cn (.int 1)))) (o2 ba (o2 aN (vr 1) (cn (.int 0))) (cl bL (ac (vr 2) ah))))))
def d7:List T->Rs T:=val 3 3 ez
def ze:En->Rs Fl:=
 (ax (bQ (cl eY (ac (vr 0) (ac (cn (.int 0)) (ac (cn (.int 5)) ah)))) (gN 1)) (ax (bQ (cl cy (ac (o2 aN (vr 1) (cn (.int 0))) ah)) (gN 2)) (ax (bQ (cl eZ (ac (vr 1) ah)) (gN 3)) (ax (bQ (cl bX (ac (cn (.int 0)) (ac (vr 1) (ac (cn .non) ah)))) (gN 4)) (ax (bQ (cl bX (ac (cn (.int 1)) (ac (vr 1) (ac (cn .non) ah)))) (gN 5)) (ax (eI (tb (o2 lz (o2 gf (vr 4) (cn .non)) (o2 gf (vr 5) (cn .non)))) (aL (cn (.bl false))) sN) (ax (eI (tb (o2 gf (vr 4) (cn .non))) (ax (eI (tb (o2 gf (cl cg (ac (vr 2) (ac (dv (iS (vr 3)) [none,none,none] (gT 3 (dO (gN 0) (dO (gN 1) (dO (gN 2) lm)))) bT (aW (ac (vr 0) (ac (vr 1) (ac (o1 kO (cn (.int 1))) ah))))) ah))) (cn .non))) (aL (cn (.bl false))) sN) (ax (bQ (aW (ac (o2 cQ (cl ar (ac (vr 0) (ac (cn (.int 80)) (ac (cn (.int 9)) ah)))) (cn (.int 4))) (ac (cn (.int 1)) ah))) (gN 4)) (bQ (dv (iR (ac (cn (.int 3)) ah)) [none,some 0,some 3] (gN 0) bT (cl ar (ac (vr 1) (ac (o2 aH (cn (.int 81)) (vr 0)) (ac (o2 aH (cl bL (ac (vr 2) ah)) (cn (.int 1))) ah))))) (gN 5)))) (ax (bQ (vr 4) (gT 2 (dO (gN 6) (dO (gN 7) lm)))) (ax (bQ (dv (iR (ac (cn (.int 2)) (ac (o2 aH (vr 7) (cn (.int 1))) ah))) [none,some 6,some 7] (gN 0) (jT (tb (o2 il (o2 fh (vr 1) (vr 0)) (cn (.int 0)))) (tb (o2 il (o2 fh (vr 2) (vr 0)) (cn (.int 0))))) (vr 0)) (gN 8)) (ax (eI (kF (tb (o2 mS (vr 7) (cn (.int 1)))) (tb (o2 lz (vr 8) (b7 ah)))) (aL (cn (.bl false))) sN) (ax (bQ (cl sO (ac (dv (iS (vr 5)) [none,some 3] (gN 0) bT (o2 aN (o2 aN (vr 1) (vr 0)) (cn (.int 2)))) ah)) (gN 9)) (ax (eI (kF (du (tb (cl ci (ac (vr 3) (ac (vr 5) ah))))) (tb (o2 lz (o2 ba (vr 9) (vr 7)) (o2 ba (vr 6) (cl bL (ac (vr 5) ah)))))) (aL (cn (.bl false))) sN) (eI (tb (o2 gf (cl cg (ac (vr 2) (ac (dv (iS (vr 3)) [none,none,none,some 7,some 6] (gT 3 (dO (gN 0) (dO (gN 1) (dO (gN 2) lm)))) bT (aW (ac (vr 0) (ac (vr 1) (ac (o2 cQ (o2 ba (vr 2) (vr 3)) (vr 4)) ah))))) ah))) (cn .non))) (aL (cn (.bl false))) sN))))))) (ax (bQ (cl ar (ac (vr 0) (ac (cn (.int 90)) (ac (o2 aH (cl bL (ac (vr 5) ah)) (cn (.int 1))) ah)))) (gN 10)) (ax (bQ (o2 aN (b7 (ac (o1 kO (cn (.int 1))) (ac (cl bL (ac (vr 3) ah)) (ac (cn (.bl true)) (ac (cn .non) (ac (cn (.str "0")) (ac (cn (.int 0)) (ac (cn (.int 1)) ah)))))))) (cl ar (ac (vr 0) (ac (cn (.int 91)) (ac (cn (.int 7)) ah))))) (gN 11)) (ax (bQ (b7 (ac (vr 5) (ac (o2 aH (sl (vr 5) pN (pS (vr 10))) (sl (vr 5) (pS (o2 aH (vr 10) (cn (.int 1)))) pN)) (ac (o2 aH (sl (vr 5) pN (pS (o2 aH (vr 10) (cn (.int 1))))) (sl (vr 5) (pS (vr 10)) pN)) (ac (o2 aH (o2 aH (sl (vr 5) pN (pS (vr 10))) (b7 (ac (vr 11) ah))) (sl (vr 5) (pS (o2 aH (vr 10) (cn (.int 1)))) pN)) ah))))) (gN 12)) (ax (bQ (o2 aH (vr 12) (b7 (ac (o2 aH (sl (vr 5) (pS (vr 10)) pN) (sl (vr 5) pN (pS (vr 10)))) (ac (o1 wZ (vr 5)) (ac (o2 ba (vr 5) (cn (.int 2))) (ac (b7 ah) ah)))))) (gN 12)) (ax (bQ (o2 aH (vr 12) (b7 (ac (cl jL (ac (vr 5) ah)) (ac (cn .non) (ac (b7 (ac (cn (.int 0)) ah)) (ac (b7 (ac (cn (.int 0)) (ac (cn (.int 1)) ah))) ah)))))) (gN 12)) (ax (bQ (aW (ac (o2 cQ (cl ar (ac (vr 0) (ac (cn (.int 92)) (ac (cn (.int 13)) ah)))) (cn (.int 6))) (ac (o2 aH (cn (.int 1)) (cl ar (ac (vr 0) (ac (cn (.int 93)) (ac (cn (.int 3)) ah))))) ah))) (gN 13)) (ax (dA (iS (vr 12)) (gN 14) (dA (iS (aW (ac (vr 4) (ac (vr 13) (ac (aW (ac (o2 cQ (o2 aN (vr 4) (cn (.int 0))) (cn (.int 1))) (ac (o2 aN (vr 4) (cn (.int 1))) ah))) (ac (aW (ac (o2 aH (o2 aN (vr 4) (cn (.int 0))) (cn (.int 1))) (ac (o2 aN (vr 4) (cn (.int 1))) ah))) ah)))))) (gN 15) (eI (tb (o2 lz (cl cb (ac (vr 1) (ac (vr 15) (ac (vr 14) ah)))) (cl d7 (ac (vr 3) (ac (vr 15) (ac (vr 14) ah)))))) (aL (cn (.bl false))) sN))) (aL (o2 il (dv (iR (ac (cn (.int 3)) ah)) [none,some 1,some 5] (gN 0) bT (cl bX (ac (vr 0) (ac (sl (vr 1) pN (pS (cn (.int 1)))) (ac (vr 2) ah))))) (o2 ba (b7 (ac (aW (ac (cn (.str "refused")) (ac (cn (.int 0)) ah))) ah)) (cn (.int 3)))))))))))))))))))
def m_law:List T->Rs T:=val 1 16 ze
end G
namespace G
open PySem PySem.Spec PyProof.Rows L2 Tr
section
variable {P:Program}{w:World}{K:PySem.W.Frag}{mg:Str->Option Value}{base:Heap}
abbrev j9:Stmt:=top 49
&pF:aE ["_law_script","_law_k"] ["_law_script","_law_k"] (aj j9):=⟨rfl,rfl,rfl,by decide+kernel,rfl,by decide+kernel,by decide+kernel⟩
&p8 (F:gJ K mg "_law_cell" j9 ["_law_script","_law_k"])(B:Bl mg):Cl P w K mg base 1 "_law_cell" 2 fo:=
 br F pF rfl fun f cdv A outer s H E hr xe=>(ak (bu (aR (ij (hW hr)) (ad 0) (cJ af)) (ao (ay (aq bw ag (ad 1)))) a9) (ao (ay (aq aI (aA (ad 0) (aq fZ (ad 1) (bP bS B.b_len boot_len (ae (ad 0) af)))) (aq bw ag (aq jf (ad 1) (bP bS B.b_len boot_len (ae (ad 0) af))))))))
abbrev jE:Stmt:=top 50
&sc__law_drawn:aE ["_law_script","_law_k","_law_many","_law_cell_here"] ["_law_script","_law_k","_law_many"] (aj jE):=⟨rfl,rfl,rfl,by decide+kernel,rfl,by decide+kernel,by decide+kernel⟩
&oh (F:gJ K mg "_law_drawn" jE ["_law_script","_law_k","_law_many"])(c__law_cell:Cl P w K mg base 1 "_law_cell" 2 fo):Cl P w K mg base 2 "_law_drawn" 3 ar:=
 br F sc__law_drawn rfl fun f cdv A outer s H E hr xe=>(by(&@ak _ _ _ _ _ ?_ ?_;(focus #(aB (aq fZ (aq aI (aq bw (aq fZ (aP c__law_cell hr (ae (ad 0) (ae (ad 1) af))) ag) ag) (aq bw ag (aq aI (ad 1) ag))) ag) (ai 3 sc__law_drawn.nd)));&@ak _ _ _ _ _ ?_ ?_;(focus #(aB (aq fZ (aq aI (aq bw (ad 3) (ad 3)) (aq jf (ad 3) ag)) ag) (ai 3 sc__law_drawn.nd)));#ao (ay (aq fZ (aq jf (aq fZ (aq aI (aq bw (ad 3) (ad 3)) (aq jf (ad 3) ag)) ag) ag) (ad 2)))))
abbrev fX:Stmt:=top 53
&sc__law_events:aE ["_law_clocks","_law_found","_law_number","_law_clock_here"] ["_law_clocks"] (aj fX):=⟨rfl,rfl,rfl,by decide+kernel,rfl,by decide+kernel,by decide+kernel⟩
&mI (F:gJ K mg "_law_events" fX ["_law_clocks"])(B:Bl mg):Cl P w K mg base 1 "_law_events" 1 cy:=
 br F sc__law_events rfl fun f cdv A outer s H E hr xe=>(by(&@ak _ _ _ _ _ ?_ ?_;(focus #(aB (cJ af) (ai 1 sc__law_events.nd)));&@ak _ _ _ _ _ ?_ ?_;(focus #(bO rfl (ir B.b_enumerate (ae (ad 0) af)) (dW rfl (aK (ai 2 sc__law_events.nd) (aK (ai 3 sc__law_events.nd) c9))) (ao (aB (aq aI (ad 1) (dP (N':=["_law_place","_law_number"]) (src:=[none,some 2]) rfl (LcScope.by (N:=["_law_clocks","_law_found","_law_number","_law_clock_here"]) (names:=(aj fX).names) rfl rfl rfl (by decide+kernel)) (cv B.b_range (ae (bP bS B.b_len boot_len (ae (aA (ad 3) ag) af)) af)) (fun _ _ _ _ _=>⟨(ai 0 (show List.Nodup (["_law_place","_law_number"]:List Str)by decide+kernel)),bH,(a7 (ae (ad 1) (ae (ad 0) af)))⟩))) (ai 1 sc__law_events.nd)))));#ao (ay (ad 1))))
abbrev iC:Stmt:=top 52
&sc__law_letter:aE ["_law_script","_law_at","_law_clocks","_law_row","_law_place","_law_other","_law_least","_law_most"] ["_law_script","_law_at","_law_clocks"] (aj iC):=⟨rfl,rfl,rfl,by decide+kernel,rfl,by decide+kernel,by decide+kernel⟩
&mH (F:gJ K mg "_law_letter" iC ["_law_script","_law_at","_law_clocks"])(c__law_events:Cl P w K mg base 1 "_law_events" 1 cy)(c__law_drawn:Cl P w K mg base 2 "_law_drawn" 3 ar)(B:Bl mg):Cl P w K mg base 3 "_law_letter" 3 cT:=
 br F sc__law_letter rfl fun f cdv A outer s H E hr xe=>(by(&@ak _ _ _ _ _ ?_ ?_;(focus #(aB (aP c__law_events hr (ae (ad 2) af)) (ai 3 sc__law_letter.nd)));&@ak _ _ _ _ _ ?_ ?_;(focus #(bu (aR kh (bP bS B.b_len boot_len (ae (ad 3) af)) ag) (ao (ay bB)) a9));&@ak _ _ _ _ _ ?_ ?_;(focus #(aB (aP c__law_drawn hr (ae (ad 0) (ae (ad 1) (ae (bP bS B.b_len boot_len (ae (ad 3) af)) af)))) (ai 4 sc__law_letter.nd)));&@ak _ _ _ _ _ ?_ ?_;(focus #(aB (aq fZ (aq aI (aq aI (ad 4) ag) (aP c__law_drawn hr (ae (ad 0) (ae (aq aI (ad 1) ag) (ae (aq cM (bP bS B.b_len boot_len (ae (ad 3) af)) ag) af))))) (bP bS B.b_len boot_len (ae (ad 3) af))) (ai 5 sc__law_letter.nd)));&@ak _ _ _ _ _ ?_ ?_;(focus #(aB (aP c__law_drawn hr (ae (ad 0) (ae (aq aI (ad 1) ag) (ae ag af)))) (ai 6 sc__law_letter.nd)));&@ak _ _ _ _ _ ?_ ?_;(focus #(aB (zq_if (aR (ij (hW hr)) (aP c__law_drawn hr (ae (ad 0) (ae (aq aI (ad 1) ag) (ae ag af)))) ag) bB (aq aI (ad 6) (aP c__law_drawn hr (ae (ad 0) (ae (aq aI (ad 1) ag) (ae ag af)))))) (ai 7 sc__law_letter.nd)));#ao (ay (a7 (ae (aA (ad 3) (ad 4)) (ae (aA (ad 3) (ad 5)) (ae (ad 6) (ae (ad 7) af))))))))
abbrev jF:Stmt:=top 51
&sc__law_clock:aE ["_law_script","_law_at","_law_slow","_law_readings","_law_k"] ["_law_script","_law_at"] (aj jF):=⟨rfl,rfl,rfl,by decide+kernel,rfl,by decide+kernel,by decide+kernel⟩
&oj (F:gJ K mg "_law_clock" jF ["_law_script","_law_at"])(c__law_drawn:Cl P w K mg base 2 "_law_drawn" 3 ar)(B:Bl mg):Cl P w K mg base 3 "_law_clock" 2 cj:=
 br F sc__law_clock rfl fun f cdv A outer s H E hr xe=>(by(&@ak _ _ _ _ _ ?_ ?_;(focus #(aB (aq aI ag (aP c__law_drawn hr (ae (ad 0) (ae (ad 1) (ae ag af))))) (ai 2 sc__law_clock.nd)));&@ak _ _ _ _ _ ?_ ?_;(focus #(aB (a7 (ae (aP c__law_drawn hr (ae (ad 0) (ae (aq aI (ad 1) ag) (ae ag af)))) af)) (ai 3 sc__law_clock.nd)));&@ak _ _ _ _ _ ?_ ?_;(focus #(bO rfl (cv B.b_range (ae (aP c__law_drawn hr (ae (ad 0) (ae (aq aI (ad 1) ag) (ae ag af)))) af)) (ai 4 sc__law_clock.nd) (ao (aB (aq aI (ad 3) (a7 (ae (aq aI (aq aI (aA (ad 3) (lV ag)) ag) (aP c__law_drawn hr (ae (ad 0) (ae (aq aI (aq aI (ad 1) ag) (ad 4)) (ae ag af))))) af))) (ai 3 sc__law_clock.nd)))));#ao (ay (a7 (ae (ad 2) (ae (aq aI (ad 2) (aP c__law_drawn hr (ae (ad 0) (ae (aq aI (ad 1) ag) (ae ag af))))) (ae (ad 3) af)))))))
abbrev fW:Stmt:=top 54
&sc__law_record:aE ["_law_script","_law_at","_law_most","_law_clocks","_law_letters","_law_k","_law_letter_here"] ["_law_script","_law_at","_law_most"] (aj fW):=⟨rfl,rfl,rfl,by decide+kernel,rfl,by decide+kernel,by decide+kernel⟩
&mG (F:gJ K mg "_law_record" fW ["_law_script","_law_at","_law_most"])(c__law_drawn:Cl P w K mg base 2 "_law_drawn" 3 ar)(c__law_letter:Cl P w K mg base 3 "_law_letter" 3 cT)(c__law_clock:Cl P w K mg base 3 "_law_clock" 2 cj)(B:Bl mg):Cl P w K mg base 4 "_law_record" 3 eY:=
 br F sc__law_record rfl fun f cdv A outer s H E hr xe=>(by(&@ak _ _ _ _ _ ?_ ?_;(focus #(aB (tX nC B.b_tuple ff (ae (dP (N':=["_law_k","_law_script","_law_at"]) (src:=[none,some 0,some 1]) rfl (LcScope.by (N:=["_law_script","_law_at","_law_most","_law_clocks","_law_letters","_law_k","_law_letter_here"]) (names:=(aj fW).names) rfl rfl rfl (by decide+kernel)) (cv B.b_range (ae (aq aI ag (aP c__law_drawn hr (ae (ad 0) (ae (ad 1) (ae ag af))))) af)) (fun _ _ _ _ _=>⟨(ai 0 (show List.Nodup (["_law_k","_law_script","_law_at"]:List Str)by decide+kernel)),bH,(aP c__law_clock hr (ae (ad 1) (ae (aq aI (aq aI (ad 2) ag) (aq bw ag (ad 0))) af)))⟩)) af)) (ai 3 sc__law_record.nd)));&@ak _ _ _ _ _ ?_ ?_;(focus #(aB (cJ af) (ai 4 sc__law_record.nd)));&@ak _ _ _ _ _ ?_ ?_;(focus #(bO rfl (cv B.b_range (ae (aP c__law_drawn hr (ae (ad 0) (ae (aq aI (ad 1) ag) (ae (aq aI (ad 2) ag) af)))) af)) (ai 5 sc__law_record.nd) (ak (aB (aP c__law_letter hr (ae (ad 0) (ae (aq aI (aq aI (ad 1) ag) (aq bw ag (ad 5))) (ae (ad 3) af)))) (ai 6 sc__law_record.nd)) (ao (aB (aq aI (ad 4) (aq bw (cJ (ae (ad 6) af)) (tX ct_int B.b_int i5 (ae (dX gO (ad 6) bB) af)))) (ai 4 sc__law_record.nd))))));#ao (ay (a7 (ae (ad 3) (ae (tX nC B.b_tuple ff (ae (ad 4) af)) af))))))
abbrev iD:Stmt:=top 55
&sc__law_bounds:aE ["_law_record_here","_law_found","_law_number","_law_slow","_law_fast","_law_readings","_law_k","_law_steps","_law_one","_law_other","_law_least","_law_most"] ["_law_record_here"] (aj iD):=⟨rfl,rfl,rfl,by decide+kernel,rfl,by decide+kernel,by decide+kernel⟩
&mJ (F:gJ K mg "_law_bounds" iD ["_law_record_here"])(B:Bl mg):Cl P w K mg base 1 "_law_bounds" 1 eZ:=
 br F sc__law_bounds rfl fun f cdv A outer s H E hr xe=>(by(&@ak _ _ _ _ _ ?_ ?_;(focus #(iq 1 sc__law_bounds.nd af));&@ak _ _ _ _ _ ?_ ?_;(focus #(bO rfl (ir B.b_enumerate (ae (aA (ad 0) ag) af)) (dW rfl (aK (ai 2 sc__law_bounds.nd) (aK (dW rfl (aK (ai 3 sc__law_bounds.nd) (aK (ai 4 sc__law_bounds.nd) (aK (ai 5 sc__law_bounds.nd) c9)))) c9))) (ao (bO rfl (jK B.b_range (ae ag (ae (bP bS B.b_len boot_len (ae (ad 5) af)) af))) (ai 6 sc__law_bounds.nd) (by(&@ak _ _ _ _ _ ?_ ?_;(focus #(aB (aq cM (aA (ad 5) (ad 6)) (aA (ad 5) (aq cM (ad 6) ag))) (ai 7 sc__law_bounds.nd)));&@ak _ _ _ _ _ ?_ ?_;(focus #(gU 1 (a7 (ae (a7 (ae (ad 2) (ae (aq cM (ad 6) ag) af))) (ae (a7 (ae (ad 2) (ae (ad 6) af))) (ae (aq bw (ad 4) (ad 7)) af))))));#ao (gU 1 (a7 (ae (a7 (ae (ad 2) (ae (ad 6) af))) (ae (a7 (ae (ad 2) (ae (aq cM (ad 6) ag) af))) (ae (aq cM ag (aq bw (ad 3) (ad 7))) af)))))))))));&@ak _ _ _ _ _ ?_ ?_;(focus #(bO rfl (bj (aA (ad 0) ag)) (dW rfl (aK (ai 8 sc__law_bounds.nd) (aK (ai 9 sc__law_bounds.nd) (aK (ai 10 sc__law_bounds.nd) (aK (ai 11 sc__law_bounds.nd) c9))))) (ak (gU 1 (a7 (ae (ad 9) (ae (ad 8) (ae (aq cM ag (ad 10)) af))))) (ao (bu (aR gO (ad 11) bB) (ao (gU 1 (a7 (ae (ad 8) (ae (ad 9) (ae (ad 11) af)))))) a9)))));#ao (gS 1 (ay (ad 1)))))
abbrev md:Stmt:=top 17
&sT:aE ["thing","least","most"] ["thing","least","most"] (aj md):=⟨rfl,rfl,rfl,by decide+kernel,rfl,by decide+kernel,by decide+kernel⟩
&sZ (F:gJ K mg "is_long" md ["thing","least","most"])(B:Bl mg):Cl P w K mg base 1 "is_long" 3 aJ:=
 br F sT rfl fun f cdv A outer s H E hr xe=>(ao (ay (cV (lW B.b_isinstance B.b_tuple ff (ad 0)) (dL (qK mx mx (ad 1) (bP bS B.b_len boot_len (ae (ad 0) af)) (ad 2))))))
abbrev k9:Stmt:=top 15
&qY:aE ["thing"] ["thing"] (aj k9):=⟨rfl,rfl,rfl,by decide+kernel,rfl,by decide+kernel,by decide+kernel⟩
&rC (F:gJ K mg "is_whole" k9 ["thing"])(B:Bl mg):Cl P w K mg base 1 "is_whole" 1 dN:=
 br F qY rfl fun f cdv A outer s H E hr xe=>(ao (ay (cV (lW B.b_isinstance B.b_int i5 (ad 0)) (dL (zq_not (lW B.b_isinstance B.b_bool kD (ad 0)))))))
abbrev j4:Stmt:=top 16
&pB:aE ["thing","least","most"] ["thing","least","most"] (aj j4):=⟨rfl,rfl,rfl,by decide+kernel,rfl,by decide+kernel,by decide+kernel⟩
&pY (F:gJ K mg "is_within" j4 ["thing","least","most"])(c_is_whole:Cl P w K mg base 1 "is_whole" 1 dN):Cl P w K mg base 2 "is_within" 3 a6:=
 br F pB rfl fun f cdv A outer s H E hr xe=>(ao (ay (cV (aP c_is_whole hr (ae (ad 0) af)) (dL (qK mx mx (ad 1) (ad 0) (ad 2))))))
abbrev l9:Stmt:=top 20
&sS:aE ["slow","fast"] ["slow","fast"] (aj l9):=⟨rfl,rfl,rfl,by decide+kernel,rfl,by decide+kernel,by decide+kernel⟩
&sY (F:gJ K mg "is_pace" l9 ["slow","fast"])(c_is_within:Cl P w K mg base 2 "is_within" 3 a6)(C:Cs mg):Cl P w K mg base 3 "is_pace" 2 fN:=
 br F sS rfl fun f cdv A outer s H E hr xe=>(ao (ay (cV (aP c_is_within hr (ae (ad 0) (ae ag (ae (qJ C.SLOWEST) af)))) (dL (aP c_is_within hr (ae (ad 1) (ae (ad 0) (ae (qJ C.SLOWEST) af))))))))
abbrev l8:Stmt:=top 18
&wS:aE ["numbers"] ["numbers"] (aj l8):=⟨rfl,rfl,rfl,by decide+kernel,rfl,by decide+kernel,by decide+kernel⟩
&xK (F:gJ K mg "rises" l8 ["numbers"])(B:Bl mg):Cl P w K mg base 1 "rises" 1 jk:=
 br F wS rfl fun f cdv A outer s H E hr xe=>(ao (ay (bP (nE rfl) B.b_all boot_all (ae (dP (N':=["k","numbers"]) (src:=[none,some 0]) rfl (LcScope.by (N:=["numbers"]) (names:=(aj l8).names) rfl rfl rfl (by decide+kernel)) (cv B.b_range (ae (aq cM (bP bS B.b_len boot_len (ae (ad 0) af)) ag) af)) (fun _ _ _ _ _=>⟨(ai 0 (show List.Nodup (["k","numbers"]:List Str)by decide+kernel)),bH,(dX kh (aA (ad 1) (ad 0)) (aA (ad 1) (aq aI (ad 0) ag)))⟩)) af))))
abbrev fB:Stmt:=top 19
&lw:aE ["thing"] ["thing"] (aj fB):=⟨rfl,rfl,rfl,by decide+kernel,rfl,by decide+kernel,by decide+kernel⟩
&ly (F:gJ K mg "are_readings" fB ["thing"])(c_is_long:Cl P w K mg base 1 "is_long" 3 aJ)(c_rises:Cl P w K mg base 1 "rises" 1 jk)(c_is_within:Cl P w K mg base 2 "is_within" 3 a6)(B:Bl mg)(C:Cs mg):Cl P w K mg base 3 "are_readings" 1 bN:=
 br F lw rfl fun f cdv A outer s H E hr xe=>(ak (bu (cH (ca (aP c_is_long hr (ae (ad 0) (ae ag (ae (qJ C.MOST_READINGS) af)))))) (ao (ay dQ)) a9) (ao (ay (cV (bP (nE rfl) B.b_all boot_all (ae (dP (N':=["part"]) (src:=[none]) rfl (LcScope.by (N:=["thing"]) (names:=(aj fB).names) rfl rfl rfl (by decide+kernel)) (bj (ad 0)) (fun _ _ _ _ _=>⟨(ai 0 (show List.Nodup (["part"]:List Str)by decide+kernel)),bH,(aP c_is_within hr (ae (ad 0) (ae ag (ae (qJ C.LAST_READING) af))))⟩)) af)) (dL (aP c_rises hr (ae (ad 0) af)))))))
abbrev lg:Stmt:=top 21
&rc:aE ["thing"] ["thing"] (aj lg):=⟨rfl,rfl,rfl,by decide+kernel,rfl,by decide+kernel,by decide+kernel⟩
&rG (F:gJ K mg "is_clock" lg ["thing"])(c_is_long:Cl P w K mg base 1 "is_long" 3 aJ)(c_is_pace:Cl P w K mg base 3 "is_pace" 2 fN)(c_are_readings:Cl P w K mg base 3 "are_readings" 1 bN):Cl P w K mg base 4 "is_clock" 1 dg:=
 br F rc rfl fun f cdv A outer s H E hr xe=>(ao (ay (cV (aP c_is_long hr (ae (ad 0) (ae ag (ae ag af)))) (cV (aP c_is_pace hr (ae (aA (ad 0) ag) (ae (aA (ad 0) ag) af))) (dL (aP c_are_readings hr (ae (aA (ad 0) ag) af)))))))
abbrev gz:Stmt:=top 22
&nX:aE ["thing"] ["thing"] (aj gz):=⟨rfl,rfl,rfl,by decide+kernel,rfl,by decide+kernel,by decide+kernel⟩
&n8 (F:gJ K mg "are_clocks" gz ["thing"])(c_is_long:Cl P w K mg base 1 "is_long" 3 aJ)(c_is_clock:Cl P w K mg base 4 "is_clock" 1 dg)(B:Bl mg)(C:Cs mg):Cl P w K mg base 5 "are_clocks" 1 dm:=
 br F nX rfl fun f cdv A outer s H E hr xe=>(ao (ay (cV (aP c_is_long hr (ae (ad 0) (ae ag (ae (qJ C.MOST_CLOCKS) af)))) (dL (bP (nE rfl) B.b_all boot_all (ae (dP (N':=["part"]) (src:=[none]) rfl (LcScope.by (N:=["thing"]) (names:=(aj gz).names) rfl rfl rfl (by decide+kernel)) (bj (ad 0)) (fun _ _ _ _ _=>⟨(ai 0 (show List.Nodup (["part"]:List Str)by decide+kernel)),bH,(aP c_is_clock hr (ae (ad 0) af))⟩)) af))))))
abbrev lb:Stmt:=top 23
&qZ:aE ["clocks","thing"] ["clocks","thing"] (aj lb):=⟨rfl,rfl,rfl,by decide+kernel,rfl,by decide+kernel,by decide+kernel⟩
&rE (F:gJ K mg "is_event" lb ["clocks","thing"])(c_is_within:Cl P w K mg base 2 "is_within" 3 a6)(c_is_long:Cl P w K mg base 1 "is_long" 3 aJ)(B:Bl mg):Cl P w K mg base 3 "is_event" 2 gc:=
 br F qZ rfl fun f cdv A outer s H E hr xe=>(ak (bu (gn (fA (cH (ca (aP c_is_long hr (ae (ad 1) (ae ag (ae ag af)))))) (dU (cH (ca (aP c_is_within hr (ae (aA (ad 1) ag) (ae ag (ae (aq cM (bP bS B.b_len boot_len (ae (ad 0) af)) ag) af))))))))) (ao (ay dQ)) a9) (ao (ay (aP c_is_within hr (ae (aA (ad 1) ag) (ae ag (ae (aq cM (bP bS B.b_len boot_len (ae (aA (aA (ad 0) (aA (ad 1) ag)) ag) af)) ag) af)))))))
abbrev lf:Stmt:=top 24
&q0:aE ["least","most"] ["least","most"] (aj lf):=⟨rfl,rfl,rfl,by decide+kernel,rfl,by decide+kernel,by decide+kernel⟩
&rF (F:gJ K mg "is_delay" lf ["least","most"])(c_is_within:Cl P w K mg base 2 "is_within" 3 a6)(C:Cs mg):Cl P w K mg base 3 "is_delay" 2 g9:=
 br F q0 rfl fun f cdv A outer s H E hr xe=>(ao (ay (cV (aP c_is_within hr (ae (ad 0) (ae ag (ae (qJ C.LONGEST) af)))) (dL (zq_or (dX iI (ad 1) bB) (dL (aP c_is_within hr (ae (ad 1) (ae (ad 0) (ae (qJ C.LONGEST) af))))))))))
abbrev j6:Stmt:=top 25
&pE:aE ["clocks","thing"] ["clocks","thing"] (aj j6):=⟨rfl,rfl,rfl,by decide+kernel,rfl,by decide+kernel,by decide+kernel⟩
&p0 (F:gJ K mg "is_letter" j6 ["clocks","thing"])(c_is_event:Cl P w K mg base 3 "is_event" 2 gc)(c_is_long:Cl P w K mg base 1 "is_long" 3 aJ)(c_is_delay:Cl P w K mg base 3 "is_delay" 2 g9):Cl P w K mg base 4 "is_letter" 2 fm:=
 br F pE rfl fun f cdv A outer s H E hr xe=>(ak (bu (gn (fA (cH (ca (aP c_is_long hr (ae (ad 1) (ae ag (ae ag af)))))) (dU (cH (ca (aP c_is_delay hr (ae (aA (ad 1) ag) (ae (aA (ad 1) ag) af)))))))) (ao (ay dQ)) a9) (ao (ay (cV (aP c_is_event hr (ae (ad 0) (ae (aA (ad 1) ag) af))) (cV (aP c_is_event hr (ae (ad 0) (ae (aA (ad 1) ag) af))) (dL (dX (mw (hW hr)) (aA (ad 1) ag) (aA (ad 1) ag))))))))
abbrev fV:Stmt:=top 26
&ml:aE ["clocks","thing"] ["clocks","thing"] (aj fV):=⟨rfl,rfl,rfl,by decide+kernel,rfl,by decide+kernel,by decide+kernel⟩
&mF (F:gJ K mg "are_letters" fV ["clocks","thing"])(c_is_long:Cl P w K mg base 1 "is_long" 3 aJ)(c_is_letter:Cl P w K mg base 4 "is_letter" 2 fm)(B:Bl mg)(C:Cs mg):Cl P w K mg base 5 "are_letters" 2 cS:=
 br F ml rfl fun f cdv A outer s H E hr xe=>(ao (ay (cV (aP c_is_long hr (ae (ad 1) (ae ag (ae (qJ C.MOST_LETTERS) af)))) (dL (bP (nE rfl) B.b_all boot_all (ae (dP (N':=["part","clocks"]) (src:=[none,some 0]) rfl (LcScope.by (N:=["clocks","thing"]) (names:=(aj fV).names) rfl rfl rfl (by decide+kernel)) (bj (ad 1)) (fun _ _ _ _ _=>⟨(ai 0 (show List.Nodup (["part","clocks"]:List Str)by decide+kernel)),bH,(aP c_is_letter hr (ae (ad 1) (ae (ad 0) af)))⟩)) af))))))
abbrev j5:Stmt:=top 27
&pC:aE ["thing"] ["thing"] (aj j5):=⟨rfl,rfl,rfl,by decide+kernel,rfl,by decide+kernel,by decide+kernel⟩
&pZ (F:gJ K mg "is_record" j5 ["thing"])(c_is_long:Cl P w K mg base 1 "is_long" 3 aJ)(c_are_clocks:Cl P w K mg base 5 "are_clocks" 1 dm)(c_are_letters:Cl P w K mg base 5 "are_letters" 2 cS):Cl P w K mg base 6 "is_record" 1 gq:=
 br F pC rfl fun f cdv A outer s H E hr xe=>(ao (ay (cV (aP c_is_long hr (ae (ad 0) (ae ag (ae ag af)))) (cV (aP c_are_clocks hr (ae (aA (ad 0) ag) af)) (dL (aP c_are_letters hr (ae (aA (ad 0) ag) (ae (aA (ad 0) ag) af))))))))
abbrev ix:Stmt:=top 28
&mh:aE ["thing"] ["thing"] (aj ix):=⟨rfl,rfl,rfl,by decide+kernel,rfl,by decide+kernel,by decide+kernel⟩
&mz (F:gJ K mg "need_record" ix ["thing"])(c_is_record:Cl P w K mg base 6 "is_record" 1 gq){C_NoRecord C_NoEvent C_NoNumber C_NoWorld C_Barred C_Nothing C_ClockError:Addr}(S:Xs K mg C_NoRecord C_NoEvent C_NoNumber C_NoWorld C_Barred C_Nothing C_ClockError):Cl P w K mg base 7 "need_record" 1 cw:=
 br F mh rfl fun f cdv A outer s H E hr xe=>(ao (bu (cH (ca (aP c_is_record hr (ae (ad 0) af)))) (ao (vd S.o_NoRecord S.m_NoRecord)) a9))
abbrev fT:Stmt:=top 31
&sc_bounds_of_clock:aE ["number","clock","readings","told","k","first","second","steps"] ["number","clock"] (aj fT):=⟨rfl,rfl,rfl,by decide+kernel,rfl,by decide+kernel,by decide+kernel⟩
&jP (F:gJ K mg "bounds_of_clock" fT ["number","clock"])(B:Bl mg):Cl P w K mg base 1 "bounds_of_clock" 2 cf:=
 br F sc_bounds_of_clock rfl fun f cdv A outer s H E hr xe=>(by(&@ak _ _ _ _ _ ?_ ?_;(focus #(aB (aA (ad 1) ag) (ai 2 sc_bounds_of_clock.nd)));&@ak _ _ _ _ _ ?_ ?_;(focus #(iq 3 sc_bounds_of_clock.nd af));&@ak _ _ _ _ _ ?_ ?_;(focus #(bO rfl (cv B.b_range (ae (aq cM (bP bS B.b_len boot_len (ae (ad 2) af)) ag) af)) (ai 4 sc_bounds_of_clock.nd) (by(&@ak _ _ _ _ _ ?_ ?_;(focus #(aB (a7 (ae (ad 0) (ae (ad 4) af))) (ai 5 sc_bounds_of_clock.nd)));&@ak _ _ _ _ _ ?_ ?_;(focus #(aB (a7 (ae (ad 0) (ae (aq aI (ad 4) ag) af))) (ai 6 sc_bounds_of_clock.nd)));&@ak _ _ _ _ _ ?_ ?_;(focus #(aB (aq cM (aA (ad 2) (aq aI (ad 4) ag)) (aA (ad 2) (ad 4))) (ai 7 sc_bounds_of_clock.nd)));&@ak _ _ _ _ _ ?_ ?_;(focus #(gU 3 (a7 (ae (ad 5) (ae (ad 6) (ae (aq bw (ad 7) (aA (ad 1) ag)) af))))));#ao (gU 3 (a7 (ae (ad 6) (ae (ad 5) (ae (aq bw (lV (ad 7)) (aA (ad 1) ag)) af)))))))));#ao (gS 3 (ay (ad 3)))))
abbrev fE:Stmt:=top 32
&sc_bounds_of_letter:aE ["letter","told"] ["letter"] (aj fE):=⟨rfl,rfl,rfl,by decide+kernel,rfl,by decide+kernel,by decide+kernel⟩
&jy (F:gJ K mg "bounds_of_letter" fE ["letter"]):Cl P w K mg base 1 "bounds_of_letter" 1 b6:=
 br F sc_bounds_of_letter rfl fun f cdv A outer s H E hr xe=>(by(&@ak _ _ _ _ _ ?_ ?_;(focus #(iq 1 sc_bounds_of_letter.nd (ae (a7 (ae (aA (ad 0) ag) (ae (aA (ad 0) ag) (ae (lV (aA (ad 0) ag)) af)))) af)));&@ak _ _ _ _ _ ?_ ?_;(focus #(bu (aR gO (aA (ad 0) ag) bB) (ao (gU 1 (a7 (ae (aA (ad 0) ag) (ae (aA (ad 0) ag) (ae (aA (ad 0) ag) af)))))) a9));#ao (gS 1 (ay (ad 1)))))
abbrev oA:Stmt:=top 33
&sc_bounds:aE ["record","told","number","clock","letter"] ["record"] (aj oA):=⟨rfl,rfl,rfl,by decide+kernel,rfl,by decide+kernel,by decide+kernel⟩
&vC (F:gJ K mg "bounds" oA ["record"])(c_need_record:Cl P w K mg base 7 "need_record" 1 cw)(c_bounds_of_clock:Cl P w K mg base 1 "bounds_of_clock" 2 cf)(c_bounds_of_letter:Cl P w K mg base 1 "bounds_of_letter" 1 b6)(B:Bl mg):Cl P w K mg base 8 "bounds" 1 dD:=
 br F sc_bounds rfl fun f cdv A outer s H E hr xe=>(by(&@ak _ _ _ _ _ ?_ ?_;(focus #(qI (aP c_need_record hr (ae (ad 0) af))));&@ak _ _ _ _ _ ?_ ?_;(focus #(iq 1 sc_bounds.nd af));&@ak _ _ _ _ _ ?_ ?_;(focus #(bO rfl (ir B.b_enumerate (ae (aA (ad 0) ag) af)) (dW rfl (aK (ai 2 sc_bounds.nd) (aK (ai 3 sc_bounds.nd) c9))) (ao (ph 1 (aP c_bounds_of_clock hr (ae (ad 2) (ae (ad 3) af)))))));&@ak _ _ _ _ _ ?_ ?_;(focus #(bO rfl (bj (aA (ad 0) ag)) (ai 4 sc_bounds.nd) (ao (ph 1 (aP c_bounds_of_letter hr (ae (ad 4) af))))));#ao (gS 1 (ay (ad 1)))))
abbrev iB:Stmt:=top 42
&mi:aE ["thing"] ["thing"] (aj iB):=⟨rfl,rfl,rfl,by decide+kernel,rfl,by decide+kernel,by decide+kernel⟩
&mC (F:gJ K mg "is_fraction" iB ["thing"])(c_is_long:Cl P w K mg base 1 "is_long" 3 aJ)(c_is_whole:Cl P w K mg base 1 "is_whole" 1 dN):Cl P w K mg base 2 "is_fraction" 1 dC:=
 br F mi rfl fun f cdv A outer s H E hr xe=>(ao (ay (cV (aP c_is_long hr (ae (ad 0) (ae ag (ae ag af)))) (cV (aP c_is_whole hr (ae (aA (ad 0) ag) af)) (cV (aP c_is_whole hr (ae (aA (ad 0) ag) af)) (dL (dX ot_gt (aA (ad 0) ag) ag)))))))
abbrev fU:Stmt:=top 35
&mj:aE ["limits","thing"] ["limits","thing"] (aj fU):=⟨rfl,rfl,rfl,by decide+kernel,rfl,by decide+kernel,by decide+kernel⟩
&mE (F:gJ K mg "are_numbers" fU ["limits","thing"])(c_is_within:Cl P w K mg base 2 "is_within" 3 a6)(B:Bl mg):Cl P w K mg base 3 "are_numbers" 2 cx:=
 br F mj rfl fun f cdv A outer s H E hr xe=>(ao (ay (cV (lW B.b_isinstance B.b_list kC (ad 1)) (dL (bP (nE rfl) B.b_all boot_all (ae (dP (N':=["part","limits"]) (src:=[none,some 0]) rfl (LcScope.by (N:=["limits","thing"]) (names:=(aj fU).names) rfl rfl rfl (by decide+kernel)) (bj (ad 1)) (fun _ _ _ _ _=>⟨(ai 0 (show List.Nodup (["part","limits"]:List Str)by decide+kernel)),bH,(aP c_is_within hr (ae (ad 0) (ae ag (ae (aq cM (bP bS B.b_len boot_len (ae (ad 1) af)) ag) af))))⟩)) af))))))
abbrev qT:Stmt:=top 37
&sc_leads:aE ["limits","one","other","thing","place","number"] ["limits","one","other","thing"] (aj qT):=⟨rfl,rfl,rfl,by decide+kernel,rfl,by decide+kernel,by decide+kernel⟩
&xL (F:gJ K mg "leads" qT ["limits","one","other","thing"])(c_are_numbers:Cl P w K mg base 3 "are_numbers" 2 cx):Cl P w K mg base 4 "leads" 4 kq:=
 br F sc_leads rfl fun f cdv A outer s H E hr xe=>(by(&@ak _ _ _ _ _ ?_ ?_;(focus #(bu (cH (ca (aP c_are_numbers hr (ae (ad 0) (ae (ad 3) af))))) (ao (ay dQ)) a9));&@ak _ _ _ _ _ ?_ ?_;(focus #(aB (ad 1) (ai 4 sc_leads.nd)));&@ak _ _ _ _ _ ?_ ?_;(focus #(bO rfl (bj (ad 3)) (ai 5 sc_leads.nd) (ak (bu (aR (mw (hW hr)) (aA (aA (ad 0) (ad 5)) ag) (ad 4)) (ao (ay dQ)) a9) (ao (aB (aA (aA (ad 0) (ad 5)) ag) (ai 4 sc_leads.nd))))));#ao (ay (dX (ij (hW hr)) (ad 4) (ad 2)))))
abbrev iz:Stmt:=top 38
&sc_leads_round:aE ["limits","thing","start"] ["limits","thing"] (aj iz):=⟨rfl,rfl,rfl,by decide+kernel,rfl,by decide+kernel,by decide+kernel⟩
&mB (F:gJ K mg "leads_round" iz ["limits","thing"])(c_leads:Cl P w K mg base 4 "leads" 4 kq)(c_are_numbers:Cl P w K mg base 3 "are_numbers" 2 cx):Cl P w K mg base 5 "leads_round" 2 dB:=
 br F sc_leads_round rfl fun f cdv A outer s H E hr xe=>(by(&@ak _ _ _ _ _ ?_ ?_;(focus #(bu (gn (fA (cH (ca (aP c_are_numbers hr (ae (ad 0) (ae (ad 1) af))))) (dU (aR (ij (hW hr)) (ad 1) (cJ af))))) (ao (ay dQ)) a9));&@ak _ _ _ _ _ ?_ ?_;(focus #(aB (aA (aA (ad 0) (aA (ad 1) ag)) ag) (ai 2 sc_leads_round.nd)));#ao (ay (aP c_leads hr (ae (ad 0) (ae (ad 2) (ae (ad 2) (ae (ad 1) af))))))))
abbrev kG:Stmt:=top 36
&vn:aE ["limits","walk"] ["limits","walk"] (aj kG):=⟨rfl,rfl,rfl,by decide+kernel,rfl,by decide+kernel,by decide+kernel⟩
&vz (F:gJ K mg "sum_of" kG ["limits","walk"])(B:Bl mg):Cl P w K mg base 1 "sum_of" 2 dZ:=
 br F vn rfl fun f cdv A outer s H E hr xe=>(ao (ay (bP (tQ rfl) B.b_sum boot_sum (ae (dP (N':=["number","limits"]) (src:=[none,some 0]) rfl (LcScope.by (N:=["limits","walk"]) (names:=(aj kG).names) rfl rfl rfl (by decide+kernel)) (bj (ad 1)) (fun _ _ _ _ _=>⟨(ai 0 (show List.Nodup (["number","limits"]:List Str)by decide+kernel)),bH,(aA (aA (ad 1) (ad 0)) ag)⟩)) af))))
abbrev jD:Stmt:=top 47
&sc_shows_room:aE ["record","fraction","thing","limits"] ["record","fraction","thing"] (aj jD):=⟨rfl,rfl,rfl,by decide+kernel,rfl,by decide+kernel,by decide+kernel⟩
&n6 (F:gJ K mg "shows_room" jD ["record","fraction","thing"])(c_bounds:Cl P w K mg base 8 "bounds" 1 dD)(c_is_fraction:Cl P w K mg base 2 "is_fraction" 1 dC)(c_leads_round:Cl P w K mg base 5 "leads_round" 2 dB)(c_sum_of:Cl P w K mg base 1 "sum_of" 2 dZ)(B:Bl mg):Cl P w K mg base 9 "shows_room" 3 cb:=
 br F sc_shows_room rfl fun f cdv A outer s H E hr xe=>(by(&@ak _ _ _ _ _ ?_ ?_;(focus #(aB (aP c_bounds hr (ae (ad 0) af)) (ai 3 sc_shows_room.nd)));&@ak _ _ _ _ _ ?_ ?_;(focus #(bu (gn (fA (cH (ca (aP c_is_fraction hr (ae (ad 1) af)))) (dU (cH (ca (aP c_leads_round hr (ae (ad 3) (ae (ad 2) af)))))))) (ao (ay dQ)) a9));#ao (ay (dX mx (aq bw (aP c_sum_of hr (ae (ad 3) (ae (ad 2) af))) (aA (ad 1) ag)) (aq bw (aA (ad 1) ag) (bP bS B.b_len boot_len (ae (ad 2) af)))))))
abbrev kH:Stmt:=top 29
&sc_events:aE ["record","told","number","clock"] ["record"] (aj kH):=⟨rfl,rfl,rfl,by decide+kernel,rfl,by decide+kernel,by decide+kernel⟩
&vB (F:gJ K mg "events" kH ["record"])(c_need_record:Cl P w K mg base 7 "need_record" 1 cw)(B:Bl mg):Cl P w K mg base 8 "events" 1 iN:=
 br F sc_events rfl fun f cdv A outer s H E hr xe=>(by(&@ak _ _ _ _ _ ?_ ?_;(focus #(qI (aP c_need_record hr (ae (ad 0) af))));&@ak _ _ _ _ _ ?_ ?_;(focus #(iq 1 sc_events.nd af));&@ak _ _ _ _ _ ?_ ?_;(focus #(bO rfl (ir B.b_enumerate (ae (aA (ad 0) ag) af)) (dW rfl (aK (ai 2 sc_events.nd) (aK (ai 3 sc_events.nd) c9))) (ao (ph 1 (dP (N':=["k","number"]) (src:=[none,some 2]) rfl (LcScope.by (N:=["record","told","number","clock"]) (names:=(aj kH).names) rfl rfl rfl (by decide+kernel)) (cv B.b_range (ae (bP bS B.b_len boot_len (ae (aA (ad 3) ag) af)) af)) (fun _ _ _ _ _=>⟨(ai 0 (show List.Nodup (["k","number"]:List Str)by decide+kernel)),bH,(a7 (ae (ad 1) (ae (ad 0) af)))⟩))))));#ao (gS 1 (ay (ad 1)))))
abbrev j7:Stmt:=top 40
&sc_is_better:aE ["best","bound","ahead","known"] ["best","bound","ahead"] (aj j7):=⟨rfl,rfl,rfl,by decide+kernel,rfl,by decide+kernel,by decide+kernel⟩
&p6 (F:gJ K mg "is_better" j7 ["best","bound","ahead"]):Cl P w K mg base 1 "is_better" 3 dh:=
 br F sc_is_better rfl fun f cdv A outer s H E hr xe=>(ak (aB (tW (lO hr) (ad 0) (aA (ad 1) ag)) (ai 3 sc_is_better.nd)) (ao (ay (zq_or (dX iI (ad 3) bB) (dL (dX kh (aq aI (aA (ad 2) ag) (aA (ad 1) ag)) (aA (ad 3) ag)))))))
abbrev jd:Stmt:=top 39
&sc_settle:aE ["limits","starts","best","moved","number","bound","ahead","walk","passed"] ["limits","starts"] (aj jd):=⟨rfl,rfl,rfl,by decide+kernel,rfl,by decide+kernel,by decide+kernel⟩
&vA (F:gJ K mg "settle" jd ["limits","starts"])(c_is_better:Cl P w K mg base 1 "is_better" 3 dh)(B:Bl mg):Cl P w K mg base 2 "settle" 2 d6:=
 br F sc_settle rfl fun f cdv A outer s H E hr xe=>(by(&@ak _ _ _ _ _ ?_ ?_;(focus #(wt 2 (hu8 hr) rfl B.b_dict sc_settle.nd (dP (N':=["event"]) (src:=[none]) rfl (LcScope.by (N:=["limits","starts","best","moved","number","bound","ahead","walk","passed"]) (names:=(aj jd).names) rfl rfl rfl (by decide+kernel)) (bj (ad 1)) (fun _ _ _ _ _=>⟨(ai 0 (show List.Nodup (["event"]:List Str)by decide+kernel)),bH,(a7 (ae (ad 0) (ae (a7 (ae ag (ae (cJ af) af))) af)))⟩))));&@ak _ _ _ _ _ ?_ ?_;(focus #(aB dQ (ai 3 sc_settle.nd)));&@ak _ _ _ _ _ ?_ ?_;(focus #(oo FU (ca (ad 3)) (ak (aB dQ (ai 3 sc_settle.nd)) (ao (bO rfl (ir B.b_enumerate (ae (ad 0) af)) (dW rfl (aK (ai 4 sc_settle.nd) (aK (ai 5 sc_settle.nd) c9))) (by(&@ak _ _ _ _ _ ?_ ?_;(focus #(aB (jZ 2 (tW (lO hr) (ad 2) (aA (ad 5) ag))) (ai 6 sc_settle.nd)));&@ak _ _ _ _ _ ?_ ?_;(focus #(bu (gn (fA (aR iI (ad 6) bB) (dU (cH (zqt_ln 2 (ca (aP c_is_better hr (ae (ad 2) (ae (ad 5) (ae (ad 6) af)))))))))) (ao zqs_ct) a9));&@ak _ _ _ _ _ ?_ ?_;(focus #(aB (aq aI (aA (ad 6) ag) (cJ (ae (ad 4) af))) (ai 7 sc_settle.nd)));&@ak _ _ _ _ _ ?_ ?_;(focus #(wu 8 (N':=["step","limits"]) (src:=[none,some 0]) rfl (LcScope.by (N:=["limits","starts","best","moved","number","bound","ahead","walk","passed"]) (names:=(aj jd).names) rfl rfl rfl (by decide+kernel)) (bj (ad 7)) (fun _ _ _ _ _=>⟨(ai 0 (show List.Nodup (["step","limits"]:List Str)by decide+kernel)),bH,(aA (aA (ad 1) (ad 0)) ag)⟩) sc_settle.nd));&@ak _ _ _ _ _ ?_ ?_;(focus #(bu (aR (ot_in (hu61 hr)) (aA (ad 5) ag) (ad 8)) (ao (ay (a7 (ae bB (ae (dz (ad 7) (dw (vf (hu61 hr) (ad 8) (aA (ad 5) ag))) dy) af))))) a9));&@ak _ _ _ _ _ ?_ ?_;(focus #(zqs_put 2 (lO hr) (aA (ad 5) ag) (a7 (ae (aq aI (aA (ad 6) ag) (aA (ad 5) ag)) (ae (ad 7) af)))));#ao (aB dQ (ai 3 sc_settle.nd)))))))));#ao (gS 2 (ay (a7 (ae (ad 2) (ae bB af)))))))
abbrev iy:Stmt:=top 44
&qX:aE ["limits","up","down"] ["limits","up","down"] (aj iy):=⟨rfl,rfl,rfl,by decide+kernel,rfl,by decide+kernel,by decide+kernel⟩
&rB (F:gJ K mg "lessened" iy ["limits","up","down"]):Cl P w K mg base 1 "lessened" 3 eQ:=
 br F qX rfl fun f cdv A outer s H E hr xe=>(ao (ay (dP (N':=["bound","down","up"]) (src:=[none,some 2,some 1]) rfl (LcScope.by (N:=["limits","up","down"]) (names:=(aj iy).names) rfl rfl rfl (by decide+kernel)) (bj (ad 0)) (fun _ _ _ _ _=>⟨(ai 0 (show List.Nodup (["bound","down","up"]:List Str)by decide+kernel)),bH,(a7 (ae (aA (ad 0) ag) (ae (aA (ad 0) ag) (ae (aq cM (aq bw (aA (ad 0) ag) (ad 1)) (ad 2)) af))))⟩))))
abbrev iw:Stmt:=top 45
&sc_tight_round:aE ["record","limits","places","tight","found"] ["record"] (aj iw):=⟨rfl,rfl,rfl,by decide+kernel,rfl,by decide+kernel,by decide+kernel⟩
&my (F:gJ K mg "tight_round" iw ["record"])(c_bounds:Cl P w K mg base 8 "bounds" 1 dD)(c_events:Cl P w K mg base 8 "events" 1 iN)(c_settle:Cl P w K mg base 2 "settle" 2 d6)(c_lessened:Cl P w K mg base 1 "lessened" 3 eQ)(c_sum_of:Cl P w K mg base 1 "sum_of" 2 dZ)(B:Bl mg):Cl P w K mg base 9 "tight_round" 1 bn:=
 br F sc_tight_round rfl fun f cdv A outer s H E hr xe=>(by(&@ak _ _ _ _ _ ?_ ?_;(focus #(aB (aP c_bounds hr (ae (ad 0) af)) (ai 1 sc_tight_round.nd)));&@ak _ _ _ _ _ ?_ ?_;(focus #(aB (aP c_events hr (ae (ad 0) af)) (ai 2 sc_tight_round.nd)));&@ak _ _ _ _ _ ?_ ?_;(focus #(aB bB (ai 3 sc_tight_round.nd)));&@ak _ _ _ _ _ ?_ ?_;(focus #(aB (aA (aP c_settle hr (ae (aP c_lessened hr (ae (ad 1) (ae ag (ae ag af)))) (ae (ad 2) af))) ag) (ai 4 sc_tight_round.nd)));&@ak _ _ _ _ _ ?_ ?_;(focus #(oo FU (aR gO (ad 4) bB) (ak (aB (ad 4) (ai 3 sc_tight_round.nd)) (ao (aB (aA (aP c_settle hr (ae (aP c_lessened hr (ae (ad 1) (ae (aP c_sum_of hr (ae (ad 1) (ae (ad 3) af))) (ae (bP bS B.b_len boot_len (ae (ad 3) af)) af)))) (ae (ad 2) af))) ag) (ai 4 sc_tight_round.nd))))));#ao (ay (ad 3))))
abbrev dM:Stmt:=top 43
&sc_in_lowest_terms:aE ["up","down","common"] ["up","down"] (aj dM):=⟨rfl,rfl,rfl,by decide+kernel,rfl,by decide+kernel,by decide+kernel⟩
&jO (F:gJ K mg "in_lowest_terms" dM ["up","down"])(B:Bl mg):Cl P w K mg base 1 "in_lowest_terms" 2 cZ:=
 br F sc_in_lowest_terms rfl fun f cdv A outer s H E hr xe=>(ak (aB (bP (ct_max rfl) B.b_max boot_max (ae (dP (N':=["k","up","down"]) (src:=[none,some 0,some 1]) rfl (LcScope.by (N:=["up","down","common"]) (names:=(aj dM).names) rfl rfl rfl (by decide+kernel)) (jK B.b_range (ae ag (ae (aq aI (ad 1) ag) af))) (fun _ _ _ _ _=>⟨(ai 0 (show List.Nodup (["k","up","down"]:List Str)by decide+kernel)),(jY (gn (pf (aR (ij (hW hr)) (aq fZ (ad 1) (ad 0)) ag) (lT (aR (ij (hW hr)) (aq fZ (ad 2) (ad 0)) ag))))),(ad 0)⟩)) af)) (ai 2 sc_in_lowest_terms.nd)) (ao (ay (a7 (ae (aq jf (ad 0) (ad 2)) (ae (aq jf (ad 1) (ad 2)) af))))))
abbrev ua:Stmt:=top 46
&sc_room:aE ["record","tight"] ["record"] (aj ua):=⟨rfl,rfl,rfl,by decide+kernel,rfl,by decide+kernel,by decide+kernel⟩
&ok_room (F:gJ K mg "room" ua ["record"])(c_tight_round:Cl P w K mg base 9 "tight_round" 1 bn)(c_in_lowest_terms:Cl P w K mg base 1 "in_lowest_terms" 2 cZ)(c_sum_of:Cl P w K mg base 1 "sum_of" 2 dZ)(c_bounds:Cl P w K mg base 8 "bounds" 1 dD)(B:Bl mg):Cl P w K mg base 10 "room" 1 iM:=
 br F sc_room rfl fun f cdv A outer s H E hr xe=>(by(&@ak _ _ _ _ _ ?_ ?_;(focus #(aB (aP c_tight_round hr (ae (ad 0) af)) (ai 1 sc_room.nd)));&@ak _ _ _ _ _ ?_ ?_;(focus #(bu (aR iI (ad 1) bB) (ao (ay bB)) a9));#ao (ay (aP c_in_lowest_terms hr (ae (aP c_sum_of hr (ae (aP c_bounds hr (ae (ad 0) af)) (ae (ad 1) af))) (ae (bP bS B.b_len boot_len (ae (ad 1) af)) af))))))
abbrev j8:Stmt:=top 58
&sc__law_told:aE ["_law_ask","_law_record_here","_law_thing","_law_e"] ["_law_ask","_law_record_here","_law_thing"] (aj j8):=⟨rfl,rfl,rfl,by decide+kernel,rfl,by decide+kernel,by decide+kernel⟩
&p7 (F:gJ K mg "_law_told" j8 ["_law_ask","_law_record_here","_law_thing"])(c_shows_room:Cl P w K mg base 9 "shows_room" 3 cb)(c_room:Cl P w K mg base 10 "room" 1 iM)(c_tight_round:Cl P w K mg base 9 "tight_round" 1 bn)(B:Bl mg){C_NoRecord C_NoEvent C_NoNumber C_NoWorld C_Barred C_Nothing C_ClockError:Addr}(S:Xs K mg C_NoRecord C_NoEvent C_NoNumber C_NoWorld C_Barred C_Nothing C_ClockError){f_r:Addr}{fd_r:FuncData}(Fn__law_refused:Fn K mg "_law_refused" bR ["_law_e"] f_r fd_r):Cl P w K mg base 11 "_law_told" 3 bX:=
 br F sc__law_told rfl fun f cdv A outer s H E hr xe=>(ao (zqs_try 3 sc__law_told.nd S.m_ClockError S.o_ClockError (fun _ _=>(ak (bu (aR kh (ad 0) ag) (ao (ay (zq_selE (selC c_room hr (selC c_tight_round hr selN)) (ad 0) (ae (ad 1) af)))) a9) (ao (ay (aP c_shows_room hr (ae (ad 1) (ae (a7 (ae ag (ae ag af))) (ae (ad 2) af)))))))) (wN rfl (Or.inl rfl) Fn__law_refused S B.b_isinstance B.b_ValueError (room3 hr)) (hcl:=fun _ _ z=>by cases z)))
abbrev eX:Stmt:=top 56
&sc__law_table:aE ["_law_places","_law_row","_law_far","_law_one","_law_other","_law_most","_law_middle","_law_whole"] ["_law_places","_law_row"] (aj eX):=⟨rfl,rfl,rfl,by decide+kernel,rfl,by decide+kernel,by decide+kernel⟩
&n9 (F:gJ K mg "_law_table" eX ["_law_places","_law_row"])(B:Bl mg):Cl P w K mg base 1 "_law_table" 2 cg:=
 br F sc__law_table rfl fun f cdv A outer s H E hr xe=>(by(&@ak _ _ _ _ _ ?_ ?_;(focus #(ve 2 0 (N':=["_law_one","_law_places"]) (src:=[none]) (hu8 hr) rfl B.b_dict sc__law_table.nd (LcScope.by (N:=["_law_places","_law_row","_law_far","_law_one","_law_other","_law_most","_law_middle","_law_whole"]) (names:=(aj eX).names) rfl rfl rfl (by decide+kernel)) (bj (ad 0)) (by decide) (fun _ _ _ _ _=>⟨(ai 0 (show List.Nodup (["_law_one","_law_places"]:List Str)by decide+kernel)),pv 0,pe_row (hu8 hr) rfl B.b_dict rfl (LcScope.byN (N:=["_law_one","_law_places"]) (N':=["_law_other"]) rfl rfl (by decide+kernel) rfl) (bj (ad 1)).h (fun _ _ _ _ _=>⟨(ai 0 (show List.Nodup (["_law_other"]:List Str)by decide+kernel)).h,pv 0,rfl⟩) (fun _=>rfl)⟩)));&@ak _ _ _ _ _ ?_ ?_;(focus #(bO rfl (bj (ad 0)) (ai 3 sc__law_table.nd) (ao (lU 2 (lO hr) (ad 3) (ad 3) ag))));&@ak _ _ _ _ _ ?_ ?_;(focus #(bO rfl (bj (ad 1)) (dW rfl (aK (ai 3 sc__law_table.nd) (aK (ai 4 sc__law_table.nd) (aK (ai 5 sc__law_table.nd) c9)))) (ao (bu (gn (fA (aR iI (jZ 2 (cU (lO hr) (cU (lO hr) (ad 2) (ad 3)) (ad 4))) bB) (dU (aR kh (ad 5) (jZ 2 (cU (lO hr) (cU (lO hr) (ad 2) (ad 3)) (ad 4))))))) (ao (lU 2 (lO hr) (ad 3) (ad 4) (ad 5))) a9))));&@ak _ _ _ _ _ ?_ ?_;(focus #(bO rfl (bj (ad 0)) (ai 6 sc__law_table.nd) (ao (bO rfl (bj (ad 0)) (ai 3 sc__law_table.nd) (ao (bO rfl (bj (ad 0)) (ai 4 sc__law_table.nd) (ao (bu (gn (pf (aR gO (jZ 2 (cU (lO hr) (cU (lO hr) (ad 2) (ad 3)) (ad 6))) bB) (lT (aR gO (jZ 2 (cU (lO hr) (cU (lO hr) (ad 2) (ad 6)) (ad 4))) bB)))) (ak (aB (aq aI (jZ 2 (cU (lO hr) (cU (lO hr) (ad 2) (ad 3)) (ad 6))) (jZ 2 (cU (lO hr) (cU (lO hr) (ad 2) (ad 6)) (ad 4)))) (ai 7 sc__law_table.nd)) (ao (bu (gn (fA (aR iI (jZ 2 (cU (lO hr) (cU (lO hr) (ad 2) (ad 3)) (ad 4))) bB) (dU (aR kh (ad 7) (jZ 2 (cU (lO hr) (cU (lO hr) (ad 2) (ad 3)) (ad 4))))))) (ao (lU 2 (lO hr) (ad 3) (ad 4) (ad 7))) a9))) a9))))))));#ao (gS 2 (ay (zq_if (aR (ij (hW hr)) (dP (N':=["_law_one","_law_far"]) (src:=[none,some 2]) rfl (LcScope.by (N:=["_law_places","_law_row","_law_far","_law_one","_law_other","_law_most","_law_middle","_law_whole"]) (names:=(aj eX).names) rfl rfl rfl (by decide+kernel)) (bj (ad 0)) (fun _ _ _ _ _=>⟨(ai 0 (show List.Nodup (["_law_one","_law_far"]:List Str)by decide+kernel)),(jY (aR kh (cU (lO hr) (cU (lO hr) (ad 1) (ad 0)) (ad 0)) ag)),(ad 0)⟩)) (cJ af)) (ad 2) bB)))))
abbrev gB:Stmt:=top 59
&sc__law_leads:aE ["_law_row","_law_thing","_law_number"] ["_law_row","_law_thing"] (aj gB):=⟨rfl,rfl,rfl,by decide+kernel,rfl,by decide+kernel,by decide+kernel⟩
&og (F:gJ K mg "_law_leads" gB ["_law_row","_law_thing"])(B:Bl mg):Cl P w K mg base 1 "_law_leads" 2 ci:=
 br F sc__law_leads rfl fun f cdv A outer s H E hr xe=>(by(&@ak _ _ _ _ _ ?_ ?_;(focus #(bu (gn (fA (cH (ca (lW B.b_isinstance B.b_list kC (ad 1)))) (dU (aR (ij (hW hr)) (ad 1) (cJ af))))) (ao (ay dQ)) a9));&@ak _ _ _ _ _ ?_ ?_;(focus #(bO rfl (bj (ad 1)) (ai 2 sc__law_leads.nd) (ao (bu (gn (fA (cH (ca (lW B.b_isinstance B.b_int i5 (ad 2)))) (fA (ca (lW B.b_isinstance B.b_bool kD (ad 2))) (dU (cH (vc mx kh ag (ad 2) (bP bS B.b_len boot_len (ae (ad 0) af)))))))) (ao (ay dQ)) a9))));#ao (ay (dX (ij (hW hr)) (dP (N':=["_law_at","_law_row","_law_thing"]) (src:=[none,some 0,some 1]) rfl (LcScope.by (N:=["_law_row","_law_thing","_law_number"]) (names:=(aj gB).names) rfl rfl rfl (by decide+kernel)) (cv B.b_range (ae (bP bS B.b_len boot_len (ae (ad 1) af)) af)) (fun _ _ _ _ _=>⟨(ai 0 (show List.Nodup (["_law_at","_law_row","_law_thing"]:List Str)by decide+kernel)),(jY (aR (mw (hW hr)) (aA (aA (ad 1) (aA (ad 2) (aq cM (ad 0) ag))) ag) (aA (aA (ad 1) (aA (ad 2) (ad 0))) ag))),(ad 0)⟩)) (cJ af)))))
abbrev gA:Stmt:=top 60
&nY:aE ["_law_row","_law_fraction","_law_thing"] ["_law_row","_law_fraction","_law_thing"] (aj gA):=⟨rfl,rfl,rfl,by decide+kernel,rfl,by decide+kernel,by decide+kernel⟩
&oa (F:gJ K mg "_law_shows" gA ["_law_row","_law_fraction","_law_thing"])(c__law_leads:Cl P w K mg base 1 "_law_leads" 2 ci)(B:Bl mg):Cl P w K mg base 2 "_law_shows" 3 d7:=
 br F nY rfl fun f cdv A outer s H E hr xe=>(ak (bu (cH (ca (aP c__law_leads hr (ae (ad 0) (ae (ad 2) af))))) (ao (ay dQ)) a9) (ao (ay (dX mx (aq bw (bP (tQ rfl) B.b_sum boot_sum (ae (dP (N':=["_law_number","_law_row"]) (src:=[none,some 0]) rfl (LcScope.by (N:=["_law_row","_law_fraction","_law_thing"]) (names:=(aj gA).names) rfl rfl rfl (by decide+kernel)) (bj (ad 2)) (fun _ _ _ _ _=>⟨(ai 0 (show List.Nodup (["_law_number","_law_row"]:List Str)by decide+kernel)),bH,(aA (aA (ad 1) (ad 0)) ag)⟩)) af)) (aA (ad 1) ag)) (aq bw (aA (ad 1) ag) (bP bS B.b_len boot_len (ae (ad 2) af)))))))
abbrev iA:Stmt:=top 61
&sc_law:aE ["_law_script","_law_record_here","_law_places","_law_row","_law_told_here","_law_thing","_law_up","_law_down","_law_parts","_law_whole","_law_at","_law_odd","_law_things","_law_near","_law_some","_law_fraction"] ["_law_script"] (aj iA):=⟨rfl,rfl,rfl,by decide+kernel,rfl,by decide+kernel,by decide+kernel⟩
&ok_law {f:Addr}{fd:FuncData}(Fn_law:Fn K mg "law" iA ["_law_script"] f fd)(c__law_record:Cl P w K mg base 4 "_law_record" 3 eY)(c__law_events:Cl P w K mg base 1 "_law_events" 1 cy)(c__law_bounds:Cl P w K mg base 1 "_law_bounds" 1 eZ)(c__law_told:Cl P w K mg base 11 "_law_told" 3 bX)(c__law_drawn:Cl P w K mg base 2 "_law_drawn" 3 ar)(c__law_table:Cl P w K mg base 1 "_law_table" 2 cg)(c__law_leads:Cl P w K mg base 1 "_law_leads" 2 ci)(c_shows_room:Cl P w K mg base 9 "shows_room" 3 cb)(c__law_shows:Cl P w K mg base 2 "_law_shows" 3 d7)(B:Bl mg):zd P w K mg base 12 f fd ["_law_script"] 1 m_law:=
 tY Fn_law.fn sc_law rfl fun cdv A outer s H E hr xe=>(by(&@ak _ _ _ _ _ ?_ ?_;(focus #(aB (aP c__law_record hr (ae (ad 0) (ae ag (ae ag af)))) (ai 1 sc_law.nd)));&@ak _ _ _ _ _ ?_ ?_;(focus #(aB (aP c__law_events hr (ae (aA (ad 1) ag) af)) (ai 2 sc_law.nd)));&@ak _ _ _ _ _ ?_ ?_;(focus #(aB (aP c__law_bounds hr (ae (ad 1) af)) (ai 3 sc_law.nd)));&@ak _ _ _ _ _ ?_ ?_;(focus #(aB (aP c__law_told hr (ae ag (ae (ad 1) (ae bB af)))) (ai 4 sc_law.nd)));&@ak _ _ _ _ _ ?_ ?_;(focus #(aB (aP c__law_told hr (ae ag (ae (ad 1) (ae bB af)))) (ai 5 sc_law.nd)));&@ak _ _ _ _ _ ?_ ?_;(focus #(bu (aR (mw (hW hr)) (dX iI (ad 4) bB) (dX iI (ad 5) bB)) (ao (ay dQ)) a9));&@ak _ _ _ _ _ ?_ ?_;(focus #(bu (aR iI (ad 4) bB) (by(&@ak _ _ _ _ _ ?_ ?_;(focus #(bu (aR iI (aP c__law_table hr (ae (ad 2) (ae (dP (N':=["_law_one","_law_other","_law_most"]) (src:=[none,none,none]) rfl (LcScope.by (N:=["_law_script","_law_record_here","_law_places","_law_row","_law_told_here","_law_thing","_law_up","_law_down","_law_parts","_law_whole","_law_at","_law_odd","_law_things","_law_near","_law_some","_law_fraction"]) (names:=(aj iA).names) rfl rfl rfl (by decide+kernel)) (bj (ad 3)) (fun _ _ _ _ _=>⟨(dW rfl (aK (ai 0 (show List.Nodup (["_law_one","_law_other","_law_most"]:List Str)by decide+kernel)) (aK (ai 1 (show List.Nodup (["_law_one","_law_other","_law_most"]:List Str)by decide+kernel)) (aK (ai 2 (show List.Nodup (["_law_one","_law_other","_law_most"]:List Str)by decide+kernel)) c9)))),bH,(a7 (ae (ad 0) (ae (ad 1) (ae (lV ag) af))))⟩)) af))) bB) (ao (ay dQ)) a9));&@ak _ _ _ _ _ ?_ ?_;(focus #(aB (a7 (ae (aq cM (aP c__law_drawn hr (ae (ad 0) (ae ag (ae ag af)))) ag) (ae ag af))) (ai 4 sc_law.nd)));#ao (aB (dP (N':=["_law_k","_law_script","_law_row"]) (src:=[none,some 0,some 3]) rfl (LcScope.by (N:=["_law_script","_law_record_here","_law_places","_law_row","_law_told_here","_law_thing","_law_up","_law_down","_law_parts","_law_whole","_law_at","_law_odd","_law_things","_law_near","_law_some","_law_fraction"]) (names:=(aj iA).names) rfl rfl rfl (by decide+kernel)) (cv B.b_range (ae ag af)) (fun _ _ _ _ _=>⟨(ai 0 (show List.Nodup (["_law_k","_law_script","_law_row"]:List Str)by decide+kernel)),bH,(aP c__law_drawn hr (ae (ad 1) (ae (aq aI ag (ad 0)) (ae (aq aI (bP bS B.b_len boot_len (ae (ad 2) af)) ag) af))))⟩)) (ai 5 sc_law.nd)))) (by(&@ak _ _ _ _ _ ?_ ?_;(focus #(aB (ad 4) (dW rfl (aK (ai 6 sc_law.nd) (aK (ai 7 sc_law.nd) c9)))));&@ak _ _ _ _ _ ?_ ?_;(focus #(wu 8 (N':=["_law_k","_law_up","_law_down"]) (src:=[none,some 6,some 7]) rfl (LcScope.by (N:=["_law_script","_law_record_here","_law_places","_law_row","_law_told_here","_law_thing","_law_up","_law_down","_law_parts","_law_whole","_law_at","_law_odd","_law_things","_law_near","_law_some","_law_fraction"]) (names:=(aj iA).names) rfl rfl rfl (by decide+kernel)) (jK B.b_range (ae ag (ae (aq aI (ad 7) ag) af))) (fun _ _ _ _ _=>⟨(ai 0 (show List.Nodup (["_law_k","_law_up","_law_down"]:List Str)by decide+kernel)),(jY (gn (pf (aR (ij (hW hr)) (aq fZ (ad 1) (ad 0)) ag) (lT (aR (ij (hW hr)) (aq fZ (ad 2) (ad 0)) ag))))),(ad 0)⟩) sc_law.nd));&@ak _ _ _ _ _ ?_ ?_;(focus #(bu (gn (fA (aR kh (ad 7) ag) (dU (aR (mw (hW hr)) (ad 8) (cJ af))))) (ao (ay dQ)) a9));&@ak _ _ _ _ _ ?_ ?_;(focus #(aB (bP (tQ rfl) B.b_sum boot_sum (ae (dP (N':=["_law_number","_law_row"]) (src:=[none,some 3]) rfl (LcScope.by (N:=["_law_script","_law_record_here","_law_places","_law_row","_law_told_here","_law_thing","_law_up","_law_down","_law_parts","_law_whole","_law_at","_law_odd","_law_things","_law_near","_law_some","_law_fraction"]) (names:=(aj iA).names) rfl rfl rfl (by decide+kernel)) (bj (ad 5)) (fun _ _ _ _ _=>⟨(ai 0 (show List.Nodup (["_law_number","_law_row"]:List Str)by decide+kernel)),bH,(aA (aA (ad 1) (ad 0)) ag)⟩)) af)) (ai 9 sc_law.nd)));&@ak _ _ _ _ _ ?_ ?_;(focus #(bu (gn (fA (cH (ca (aP c__law_leads hr (ae (ad 3) (ae (ad 5) af))))) (dU (aR (mw (hW hr)) (aq bw (ad 9) (ad 7)) (aq bw (ad 6) (bP bS B.b_len boot_len (ae (ad 5) af))))))) (ao (ay dQ)) a9));#ao (bu (aR iI (aP c__law_table hr (ae (ad 2) (ae (dP (N':=["_law_one","_law_other","_law_most","_law_down","_law_up"]) (src:=[none,none,none,some 7,some 6]) rfl (LcScope.by (N:=["_law_script","_law_record_here","_law_places","_law_row","_law_told_here","_law_thing","_law_up","_law_down","_law_parts","_law_whole","_law_at","_law_odd","_law_things","_law_near","_law_some","_law_fraction"]) (names:=(aj iA).names) rfl rfl rfl (by decide+kernel)) (bj (ad 3)) (fun _ _ _ _ _=>⟨(dW rfl (aK (ai 0 (show List.Nodup (["_law_one","_law_other","_law_most","_law_down","_law_up"]:List Str)by decide+kernel)) (aK (ai 1 (show List.Nodup (["_law_one","_law_other","_law_most","_law_down","_law_up"]:List Str)by decide+kernel)) (aK (ai 2 (show List.Nodup (["_law_one","_law_other","_law_most","_law_down","_law_up"]:List Str)by decide+kernel)) c9)))),bH,(a7 (ae (ad 0) (ae (ad 1) (ae (aq cM (aq bw (ad 2) (ad 3)) (ad 4)) af))))⟩)) af))) bB) (ao (ay dQ)) a9)))));&@ak _ _ _ _ _ ?_ ?_;(focus #(aB (aP c__law_drawn hr (ae (ad 0) (ae ag (ae (aq aI (bP bS B.b_len boot_len (ae (ad 5) af)) ag) af)))) (ai 10 sc_law.nd)));&@ak _ _ _ _ _ ?_ ?_;(focus #(aB (aA (cJ (ae (lV ag) (ae (bP bS B.b_len boot_len (ae (ad 3) af)) (ae dQ (ae bB (ae wv (ae ag (ae ag af)))))))) (aP c__law_drawn hr (ae (ad 0) (ae ag (ae ag af))))) (ai 11 sc_law.nd)));&@ak _ _ _ _ _ ?_ ?_;(focus #(aB (cJ (ae (ad 5) (ae (aq aI (dz (ad 5) dy (dw (ad 10))) (dz (ad 5) (dw (aq aI (ad 10) ag)) dy)) (ae (aq aI (dz (ad 5) dy (dw (aq aI (ad 10) ag))) (dz (ad 5) (dw (ad 10)) dy)) (ae (aq aI (aq aI (dz (ad 5) dy (dw (ad 10))) (cJ (ae (ad 11) af))) (dz (ad 5) (dw (aq aI (ad 10) ag)) dy)) af))))) (ai 12 sc_law.nd)));&@ak _ _ _ _ _ ?_ ?_;(focus #(aB (aq aI (ad 12) (cJ (ae (aq aI (dz (ad 5) (dw (ad 10)) dy) (dz (ad 5) dy (dw (ad 10)))) (ae (zq_rev (ad 5)) (ae (aq bw (ad 5) ag) (ae (cJ af) af)))))) (ai 12 sc_law.nd)));&@ak _ _ _ _ _ ?_ ?_;(focus #(aB (aq aI (ad 12) (cJ (ae (tX nC B.b_tuple ff (ae (ad 5) af)) (ae bB (ae (cJ (ae ag af)) (ae (cJ (ae ag (ae ag af))) af)))))) (ai 12 sc_law.nd)));&@ak _ _ _ _ _ ?_ ?_;(focus #(aB (a7 (ae (aq cM (aP c__law_drawn hr (ae (ad 0) (ae ag (ae ag af)))) ag) (ae (aq aI ag (aP c__law_drawn hr (ae (ad 0) (ae ag (ae ag af))))) af))) (ai 13 sc_law.nd)));&@ak _ _ _ _ _ ?_ ?_;(focus #(bO rfl (bj (ad 12)) (ai 14 sc_law.nd) (ao (bO rfl (bj (a7 (ae (ad 4) (ae (ad 13) (ae (a7 (ae (aq cM (aA (ad 4) ag) ag) (ae (aA (ad 4) ag) af))) (ae (a7 (ae (aq aI (aA (ad 4) ag) ag) (ae (aA (ad 4) ag) af))) af)))))) (ai 15 sc_law.nd) (ao (bu (aR (mw (hW hr)) (aP c_shows_room hr (ae (ad 1) (ae (ad 15) (ae (ad 14) af)))) (aP c__law_shows hr (ae (ad 3) (ae (ad 15) (ae (ad 14) af))))) (ao (ay dQ)) a9))))));#ao (ay (dX (ij (hW hr)) (dP (N':=["_law_ask","_law_record_here","_law_thing"]) (src:=[none,some 1,some 5]) rfl (LcScope.by (N:=["_law_script","_law_record_here","_law_places","_law_row","_law_told_here","_law_thing","_law_up","_law_down","_law_parts","_law_whole","_law_at","_law_odd","_law_things","_law_near","_law_some","_law_fraction"]) (names:=(aj iA).names) rfl rfl rfl (by decide+kernel)) (cv B.b_range (ae ag af)) (fun _ _ _ _ _=>⟨(ai 0 (show List.Nodup (["_law_ask","_law_record_here","_law_thing"]:List Str)by decide+kernel)),bH,(aP c__law_told hr (ae (ad 0) (ae (dz (ad 1) dy (dw ag)) (ae (ad 2) af))))⟩)) (aq bw (cJ (ae (a7 (ae wv (ae ag af))) af)) ag)))))
end
@[elab_as_elim] theorem fG {α:Type} {p:List α->Prop} (h:∀ a0,p [a0]):∀ us:List α,us.length=1->p us
 | [a0],_=>h a0
@[elab_as_elim] theorem gd {α:Type} {p:List α->Prop} (h:∀ a0 a1,p [a0,a1]):∀ us:List α,us.length=2->p us
 | [a0,a1],_=>h a0 a1
@[elab_as_elim] theorem jI {α:Type} {p:List α->Prop} (h:∀ a0 a1 a2,p [a0,a1,a2]):∀ us:List α,us.length=3->p us
 | [a0,a1,a2],_=>h a0 a1 a2
@[elab_as_elim] theorem len_4 {α:Type} {p:List α->Prop} (h:∀ a0 a1 a2 a3,p [a0,a1,a2,a3]):∀ us:List α,us.length=4->p us
 | [a0,a1,a2,a3],_=>h a0 a1 a2 a3
def asks:wl:=⟨([("_law_cell",49),("_law_drawn",50),("_law_events",53),("_law_letter",52),("_law_clock",51),("_law_record",54),("_law_bounds",55),("is_long",17),("is_whole",15),("is_within",16),("is_pace",20),("rises",18),("are_readings",19),("is_clock",21),("are_clocks",22)]:List (Str×Nat))++([("is_event",23),("is_delay",24),("is_letter",25),("are_letters",26),("is_record",27),("need_record",28),("bounds_of_clock",31),("bounds_of_letter",32),("bounds",33),("is_fraction",42),("are_numbers",35),("leads",37),("leads_round",38),("sum_of",36),("shows_room",47)]:List (Str×Nat))++([("events",29),("is_better",40),("settle",39),("lessened",44),("tight_round",45),("in_lowest_terms",43),("room",46),("_law_told",58),("_law_table",56),("_law_leads",59),("_law_shows",60),("law",61),("_law_refused",57)]:List (Str×Nat)),(["ValueError","all","bool","dict","enumerate","int","isinstance","len","list","max","range","sum","tuple"]:List Str),[("MOST_CLOCKS",4),("MOST_LETTERS",8),("MOST_READINGS",4),("LAST_READING",99),("SLOWEST",9),("LONGEST",999)],["ClockError","NoRecord","NoEvent","NoNumber","NoWorld","Barred","Nothing"]⟩
&all_ok {l:PySem.W.OpenLaw}{w:World}{K:PySem.W.Frag}{h:Heap}{mg:Str->Option Value}{fa:Addr}(X:K.In h)(e:ol asks K=nU asks top)(G:h.Ns mainGlobals mg)(hfa:mg "law" =some (.ref fa)) :
  ∃fd:FuncData,(∀(s:Shared) (v:Value),BindsTo s fd ⟨[v],[]⟩ [("_law_script",v)])/\∀ base:Heap,K.In base->base.Ns mainGlobals mg->qF l.prog w K mg base CX0 12 fa fd ["_law_script"] (spP K 1 m_law):=by
 have B:Bl mg:=⟨eR 0 X G e rfl,eR 1 X G e rfl,eR 2 X G e rfl,eR 3 X G e rfl,eR 4 X G e rfl,eR 5 X G e rfl,eR 6 X G e rfl,eR 7 X G e rfl,eR 8 X G e rfl,eR 9 X G e rfl,eR 10 X G e rfl,eR 11 X G e rfl,eR 12 X G e rfl⟩
 have C:Cs mg:=⟨oO 0 X G e rfl,oO 1 X G e rfl,oO 2 X G e rfl,oO 3 X G e rfl,oO 4 X G e rfl,oO 5 X G e rfl⟩
 &⟨C_ClockError,ls,xD,xl,nd⟩:=okX_of (k_exc e)
 &⟨C_NoRecord,ls0,x_NoRecord,rfl,xl0⟩:=fP xl
 &⟨C_NoEvent,ls1,x_NoEvent,rfl,xl1⟩:=fP xl0
 &⟨C_NoNumber,ls2,x_NoNumber,rfl,xl2⟩:=fP xl1
 &⟨C_NoWorld,ls3,x_NoWorld,rfl,xl3⟩:=fP xl2
 &⟨C_Barred,ls4,x_Barred,rfl,xl4⟩:=fP xl3
 &⟨C_Nothing,ls5,x_Nothing,rfl,xl5⟩:=fP xl4
 cases yV xl5
 have S:Xs K mg C_NoRecord C_NoEvent C_NoNumber C_NoWorld C_Barred C_Nothing C_ClockError:=⟨PySem.W.mg_of X G (gE x_NoRecord).1,PySem.W.mg_of X G (gE x_NoEvent).1,PySem.W.mg_of X G (gE x_NoNumber).1,PySem.W.mg_of X G (gE x_NoWorld).1,PySem.W.mg_of X G (gE x_Barred).1,PySem.W.mg_of X G (gE x_Nothing).1,PySem.W.mg_of X G (gE xD).1,ox1 x_NoRecord xD,ox1 x_NoEvent xD,ox1 x_NoNumber xD,ox1 x_NoWorld xD,ox1 x_Barred xD,ox1 x_Nothing xD,ox0 xD,nd⟩
 have fz:=cG (n:="_law_cell") (i:=49) (ps:=["_law_script","_law_k"]) 0 X G e rfl fun _ _ _ _ _ _ us hl=>gd (fun _ _=>rfl) us hl
 have eE:=cG (n:="_law_drawn") (i:=50) (ps:=["_law_script","_law_k","_law_many"]) 1 X G e rfl fun _ _ _ _ _ _ us hl=>jI (fun _ _ _=>rfl) us hl
 have fg:=cG (n:="_law_events") (i:=53) (ps:=["_law_clocks"]) 2 X G e rfl fun _ _ _ _ _ _ us hl=>fG (fun _=>rfl) us hl
 have cE:=cG (n:="_law_letter") (i:=52) (ps:=["_law_script","_law_at","_law_clocks"]) 3 X G e rfl fun _ _ _ _ _ _ us hl=>jI (fun _ _ _=>rfl) us hl
 have eF:=cG (n:="_law_clock") (i:=51) (ps:=["_law_script","_law_at"]) 4 X G e rfl fun _ _ _ _ _ _ us hl=>gd (fun _ _=>rfl) us hl
 have dH:=cG (n:="_law_record") (i:=54) (ps:=["_law_script","_law_at","_law_most"]) 5 X G e rfl fun _ _ _ _ _ _ us hl=>jI (fun _ _ _=>rfl) us hl
 have dI:=cG (n:="_law_bounds") (i:=55) (ps:=["_law_record_here"]) 6 X G e rfl fun _ _ _ _ _ _ us hl=>fG (fun _=>rfl) us hl
 have jx:=cG (n:="is_long") (i:=17) (ps:=["thing","least","most"]) 7 X G e rfl fun _ _ _ _ _ _ us hl=>jI (fun _ _ _=>rfl) us hl
 have jV:=cG (n:="is_whole") (i:=15) (ps:=["thing"]) 8 X G e rfl fun _ _ _ _ _ _ us hl=>fG (fun _=>rfl) us hl
 have i8:=cG (n:="is_within") (i:=16) (ps:=["thing","least","most"]) 9 X G e rfl fun _ _ _ _ _ _ us hl=>jI (fun _ _ _=>rfl) us hl
 have gR:=cG (n:="is_pace") (i:=20) (ps:=["slow","fast"]) 10 X G e rfl fun _ _ _ _ _ _ us hl=>gd (fun _ _=>rfl) us hl
 have lS:=cG (n:="rises") (i:=18) (ps:=["numbers"]) 11 X G e rfl fun _ _ _ _ _ _ us hl=>fG (fun _=>rfl) us hl
 have cK:=cG (n:="are_readings") (i:=19) (ps:=["thing"]) 12 X G e rfl fun _ _ _ _ _ _ us hl=>fG (fun _=>rfl) us hl
 have eV:=cG (n:="is_clock") (i:=21) (ps:=["thing"]) 13 X G e rfl fun _ _ _ _ _ _ us hl=>fG (fun _=>rfl) us hl
 have ef:=cG (n:="are_clocks") (i:=22) (ps:=["thing"]) 14 X G e rfl fun _ _ _ _ _ _ us hl=>fG (fun _=>rfl) us hl
 have jW:=cG (n:="is_event") (i:=23) (ps:=["clocks","thing"]) 15 X G e rfl fun _ _ _ _ _ _ us hl=>gd (fun _ _=>rfl) us hl
 have jX:=cG (n:="is_delay") (i:=24) (ps:=["least","most"]) 16 X G e rfl fun _ _ _ _ _ _ us hl=>gd (fun _ _=>rfl) us hl
 have ja:=cG (n:="is_letter") (i:=25) (ps:=["clocks","thing"]) 17 X G e rfl fun _ _ _ _ _ _ us hl=>gd (fun _ _=>rfl) us hl
 have dG:=cG (n:="are_letters") (i:=26) (ps:=["clocks","thing"]) 18 X G e rfl fun _ _ _ _ _ _ us hl=>gd (fun _ _=>rfl) us hl
 have i9:=cG (n:="is_record") (i:=27) (ps:=["thing"]) 19 X G e rfl fun _ _ _ _ _ _ us hl=>fG (fun _=>rfl) us hl
 have cC:=cG (n:="need_record") (i:=28) (ps:=["thing"]) 20 X G e rfl fun _ _ _ _ _ _ us hl=>fG (fun _=>rfl) us hl
 have cr:=cG (n:="bounds_of_clock") (i:=31) (ps:=["number","clock"]) 21 X G e rfl fun _ _ _ _ _ _ us hl=>gd (fun _ _=>rfl) us hl
 have b8:=cG (n:="bounds_of_letter") (i:=32) (ps:=["letter"]) 22 X G e rfl fun _ _ _ _ _ _ us hl=>fG (fun _=>rfl) us hl
 have gj:=cG (n:="bounds") (i:=33) (ps:=["record"]) 23 X G e rfl fun _ _ _ _ _ _ us hl=>fG (fun _=>rfl) us hl
 have gI:=cG (n:="is_fraction") (i:=42) (ps:=["thing"]) 24 X G e rfl fun _ _ _ _ _ _ us hl=>fG (fun _=>rfl) us hl
 have dF:=cG (n:="are_numbers") (i:=35) (ps:=["limits","thing"]) 25 X G e rfl fun _ _ _ _ _ _ us hl=>gd (fun _ _=>rfl) us hl
 have ie:=cG (n:="leads") (i:=37) (ps:=["limits","one","other","thing"]) 26 X G e rfl fun _ _ _ _ _ _ us hl=>len_4 (fun _ _ _ _=>rfl) us hl
 have dE:=cG (n:="leads_round") (i:=38) (ps:=["limits","thing"]) 27 X G e rfl fun _ _ _ _ _ _ us hl=>gd (fun _ _=>rfl) us hl
 have i7:=cG (n:="sum_of") (i:=36) (ps:=["limits","walk"]) 28 X G e rfl fun _ _ _ _ _ _ us hl=>gd (fun _ _=>rfl) us hl
 have cP:=cG (n:="shows_room") (i:=47) (ps:=["record","fraction","thing"]) 29 X G e rfl fun _ _ _ _ _ _ us hl=>jI (fun _ _ _=>rfl) us hl
 have jb:=cG (n:="events") (i:=29) (ps:=["record"]) 30 X G e rfl fun _ _ _ _ _ _ us hl=>fG (fun _=>rfl) us hl
 have fy:=cG (n:="is_better") (i:=40) (ps:=["best","bound","ahead"]) 31 X G e rfl fun _ _ _ _ _ _ us hl=>jI (fun _ _ _=>rfl) us hl
 have gh:=cG (n:="settle") (i:=39) (ps:=["limits","starts"]) 32 X G e rfl fun _ _ _ _ _ _ us hl=>gd (fun _ _=>rfl) us hl
 have gi:=cG (n:="lessened") (i:=44) (ps:=["limits","up","down"]) 33 X G e rfl fun _ _ _ _ _ _ us hl=>jI (fun _ _ _=>rfl) us hl
 have cA:=cG (n:="tight_round") (i:=45) (ps:=["record"]) 34 X G e rfl fun _ _ _ _ _ _ us hl=>fG (fun _=>rfl) us hl
 have cq:=cG (n:="in_lowest_terms") (i:=43) (ps:=["up","down"]) 35 X G e rfl fun _ _ _ _ _ _ us hl=>gd (fun _ _=>rfl) us hl
 have jU:=cG (n:="room") (i:=46) (ps:=["record"]) 36 X G e rfl fun _ _ _ _ _ _ us hl=>fG (fun _=>rfl) us hl
 have jc:=cG (n:="_law_told") (i:=58) (ps:=["_law_ask","_law_record_here","_law_thing"]) 37 X G e rfl fun _ _ _ _ _ _ us hl=>jI (fun _ _ _=>rfl) us hl
 have eh:=cG (n:="_law_table") (i:=56) (ps:=["_law_places","_law_row"]) 38 X G e rfl fun _ _ _ _ _ _ us hl=>gd (fun _ _=>rfl) us hl
 have eC:=cG (n:="_law_leads") (i:=59) (ps:=["_law_row","_law_thing"]) 39 X G e rfl fun _ _ _ _ _ _ us hl=>gd (fun _ _=>rfl) us hl
 have ez:=cG (n:="_law_shows") (i:=60) (ps:=["_law_row","_law_fraction","_law_thing"]) 40 X G e rfl fun _ _ _ _ _ _ us hl=>jI (fun _ _ _=>rfl) us hl
 &⟨fd41,Fn_law,bnd⟩:=k_law (n:="law") (i:=61) (x:="_law_script") 41 X G e rfl hfa fun _ _ _ _ _ _ _=>rfl
 &⟨f42,fd42,Fn__law_refused⟩:=cG (n:="_law_refused") (i:=57) (ps:=["_law_e"]) 42 X G e rfl fun _ _ _ _ _ _ us hl=>fG (fun _=>rfl) us hl
 &⟨fd41,bnd,fun base _ _=> ?_⟩
 have c__law_cell:=p8 (P:=l.prog) (w:=w) (base:=base) fz B
 have c__law_drawn:=oh (P:=l.prog) (w:=w) (base:=base) eE c__law_cell
 have c__law_events:=mI (P:=l.prog) (w:=w) (base:=base) fg B
 have c__law_letter:=mH (P:=l.prog) (w:=w) (base:=base) cE c__law_events c__law_drawn B
 have c__law_clock:=oj (P:=l.prog) (w:=w) (base:=base) eF c__law_drawn B
 have c__law_record:=mG (P:=l.prog) (w:=w) (base:=base) dH c__law_drawn c__law_letter c__law_clock B
 have c__law_bounds:=mJ (P:=l.prog) (w:=w) (base:=base) dI B
 have c_is_long:=sZ (P:=l.prog) (w:=w) (base:=base) jx B
 have c_is_whole:=rC (P:=l.prog) (w:=w) (base:=base) jV B
 have c_is_within:=pY (P:=l.prog) (w:=w) (base:=base) i8 c_is_whole
 have c_is_pace:=sY (P:=l.prog) (w:=w) (base:=base) gR c_is_within C
 have c_rises:=xK (P:=l.prog) (w:=w) (base:=base) lS B
 have c_are_readings:=ly (P:=l.prog) (w:=w) (base:=base) cK c_is_long c_rises c_is_within B C
 have c_is_clock:=rG (P:=l.prog) (w:=w) (base:=base) eV c_is_long c_is_pace c_are_readings
 have c_are_clocks:=n8 (P:=l.prog) (w:=w) (base:=base) ef c_is_long c_is_clock B C
 have c_is_event:=rE (P:=l.prog) (w:=w) (base:=base) jW c_is_within c_is_long B
 have c_is_delay:=rF (P:=l.prog) (w:=w) (base:=base) jX c_is_within C
 have c_is_letter:=p0 (P:=l.prog) (w:=w) (base:=base) ja c_is_event c_is_long c_is_delay
 have c_are_letters:=mF (P:=l.prog) (w:=w) (base:=base) dG c_is_long c_is_letter B C
 have c_is_record:=pZ (P:=l.prog) (w:=w) (base:=base) i9 c_is_long c_are_clocks c_are_letters
 have c_need_record:=mz (P:=l.prog) (w:=w) (base:=base) cC c_is_record S
 have c_bounds_of_clock:=jP (P:=l.prog) (w:=w) (base:=base) cr B
 have c_bounds_of_letter:=jy (P:=l.prog) (w:=w) (base:=base) b8
 have c_bounds:=vC (P:=l.prog) (w:=w) (base:=base) gj c_need_record c_bounds_of_clock c_bounds_of_letter B
 have c_is_fraction:=mC (P:=l.prog) (w:=w) (base:=base) gI c_is_long c_is_whole
 have c_are_numbers:=mE (P:=l.prog) (w:=w) (base:=base) dF c_is_within B
 have c_leads:=xL (P:=l.prog) (w:=w) (base:=base) ie c_are_numbers
 have c_leads_round:=mB (P:=l.prog) (w:=w) (base:=base) dE c_leads c_are_numbers
 have c_sum_of:=vz (P:=l.prog) (w:=w) (base:=base) i7 B
 have c_shows_room:=n6 (P:=l.prog) (w:=w) (base:=base) cP c_bounds c_is_fraction c_leads_round c_sum_of B
 have c_events:=vB (P:=l.prog) (w:=w) (base:=base) jb c_need_record B
 have c_is_better:=p6 (P:=l.prog) (w:=w) (base:=base) fy
 have c_settle:=vA (P:=l.prog) (w:=w) (base:=base) gh c_is_better B
 have c_lessened:=rB (P:=l.prog) (w:=w) (base:=base) gi
 have c_tight_round:=my (P:=l.prog) (w:=w) (base:=base) cA c_bounds c_events c_settle c_lessened c_sum_of B
 have c_in_lowest_terms:=jO (P:=l.prog) (w:=w) (base:=base) cq B
 have c_room:=ok_room (P:=l.prog) (w:=w) (base:=base) jU c_tight_round c_in_lowest_terms c_sum_of c_bounds B
 have c__law_told:=p7 (P:=l.prog) (w:=w) (base:=base) jc c_shows_room c_room c_tight_round B S Fn__law_refused
 have c__law_table:=n9 (P:=l.prog) (w:=w) (base:=base) eh B
 have c__law_leads:=og (P:=l.prog) (w:=w) (base:=base) eC B
 have c__law_shows:=oa (P:=l.prog) (w:=w) (base:=base) ez c__law_leads B
 #(ok_law (P:=l.prog) (w:=w) (base:=base) Fn_law c__law_record c__law_events c__law_bounds c__law_told c__law_drawn c__law_table c__law_leads c_shows_room c__law_shows B).h
def vw:Program:=PySem.W.view PySem.Challenge.pw_farclocks_k60_room [61]
def lse:List Str:=(["ClockError","NoRecord","NoEvent","NoNumber","NoWorld","Barred","Nothing","MOST_CLOCKS","MOST_LETTERS","MOST_READINGS","LAST_READING","SLOWEST","LONGEST","is_whole","is_within","is_long","rises","are_readings","is_pace","is_clock"]:List Str)++(["are_clocks","is_event","is_delay","is_letter","are_letters","is_record","need_record","events","bounds_of_clock","bounds_of_letter","bounds","are_numbers","sum_of","leads","leads_round","settle","is_better","is_fraction","in_lowest_terms","lessened"]:List Str)++(["tight_round","room","shows_room","_law_cell","_law_drawn","_law_clock","_law_letter","_law_events","_law_record","_law_bounds","_law_table","_law_refused","_law_told","_law_leads","_law_shows"]:List Str)
def lhs (w:World)(h:Heap)(d:Drawn)(t:Nat)(os:OsState):=(PySem.W.topFrom treeTable PySem.Challenge.pw_farclocks_k60_room w 9000 ⟨h,⟨[]⟩,d,t,os⟩).map (fun s=>(PySem.W.openSeen vw lse (importedModules PySem.Challenge.pw_farclocks_k60_room.main.body) (fun _=>true) true s,ol asks (yz s.heap)))
def rhs (w:World):=some (PySem.W.openGood vw lse,nU asks top)
&lhs_r:lhs=lhs:=rfl
&rhs_r:rhs=rhs:=rfl
end G
namespace Tr
open PySem
mutual
def T.pl:T->Bool
 | .scr _=>false
 | .dct _ _=>false
 | .tup l=>plS l
 | .lst l=>plS l
 | _=>true
def plS:List T->Bool
 | [] =>true
 | t::l=>t.pl&&plS l
end
&gX:∀ {l:List T} {t:T},plS l=true->t∈l->t.pl=true
 | [],_,_,h=>by cases h
 | u::l,t,h,m=>by
  unfold plS at h
  rw [Bool.and_eq_true]at h
  rcases List.mem_cons.mp m with rfl | m
  ·#h.1
  ·#gX h.2 m
mutual
theorem T.pl_nd:∀ (t:T),t.pl=true->t.nd=true
 | .non,_=>rfl
 | .bl _,_=>rfl
 | .int _,_=>rfl
 | .str _,_=>rfl
 | .scr _,h=>by cases h
 | .dct _ _,h=>by cases h
 | .tup l,h=>by unfold T.pl at h;#,T.nd;#plS_nds l h
 | .lst l,h=>by unfold T.pl at h;#,T.nd;#plS_nds l h
theorem plS_nds:∀ (l:List T),plS l=true->nds l=true
 | [],_=>rfl
 | t::l,h=>by
  unfold plS at h
  rw [Bool.and_eq_true]at h
  #,nds
  rw [T.pl_nd t h.1,plS_nds l h.2];rfl
end
&tq {fe:En->Rs T}{h:T->T}:∀ (ts:List T) (ρ:En),0<ρ.length->(∀t∈ts,fe (ρ.set 0 (.va t))= .ok (h t))->cW (gN 0) bT fe ts ρ= .ok (ts.map h)
 | [],_,_,_=>rfl
 | t::r,ρ,hl,hf=>by
  #,cW
  have e1:gN 0 t ρ= .ok (ρ.set 0 (.va t)):=by #,gN;rw [if_pos hl]
  have ih:=tq r (ρ.set 0 (.va t)) (by rw [List.length_set];#hl) (fun u hu=>by rw [List.set_set];#hf u (List.mem_cons_of_mem _ hu))
  simp only [e1,aD,bT,if_true,hf t List.mem_cons_self,ih,List.map_cons]
&oM {fc:En->Rs Bool}{fe:En->Rs T}{p:T->Bool}{h:T->T}:∀ (ts:List T) (ρ:En),0<ρ.length->(∀t∈ts,fc (ρ.set 0 (.va t))= .ok (p t)/\(p t=true->fe (ρ.set 0 (.va t))= .ok (h t)))->cW (gN 0) fc fe ts ρ= .ok ((ts.filter p).map h)
 | [],_,_,_=>rfl
 | t::r,ρ,hl,hf=>by
  #,cW
  have e1:gN 0 t ρ= .ok (ρ.set 0 (.va t)):=by #,gN;rw [if_pos hl]
  have ih:=oM r (ρ.set 0 (.va t)) (by rw [List.length_set];#hl) (fun u hu=>by rw [List.set_set];#hf u (List.mem_cons_of_mem _ hu))
  &⟨h1,h2⟩:=hf t List.mem_cons_self
  simp only [e1,aD,h1]
  cases q:p t with
  | true=>simp only [if_true,h2 q,aD,ih,List.filter_cons,q,List.map_cons]
  | false=>simp only [Bool.false_eq_true,if_false,ih,List.filter_cons,q]
&o0 (p:T->Bool):∀ l:List T,nI (l.map fun t=>T.bl (p t))=some (l.map p)
 | [] =>rfl
 | t::l=>by rw [List.map_cons,nI,o0 p l];rfl
&all_map (p:T->Bool)(l:List T):nN [.lst (l.map fun t=>T.bl (p t))] = .ok (.bl (l.all p)):=by
 simp only [nN,o0,List.all_map]
 rfl
&i6 {α:Type}{l:List α}{k:Nat}{t:α}(h:l[k]? =some t):L2.atI l (k:Int)=some t:=by
 have hk:k<l.length:=(List.getElem?_eq_some_iff.mp h).1
 #,L2.atI L2.ixN
 rw [if_pos (by omega),if_pos (by omega),Int.toNat_natCast]
 #h
&aw {n k:Nat}(h:n<=k)(hk:k<=1000:=by decide):n<=sizeLine:=by #,sizeLine;omega
section
variable {f fa fb fc:En->Rs T}{fs:En->Rs (List T)}{b c:En->Rs Bool}{F G:En->Rs Fl}{ρ ρ' ρ1 ρ2:En}{t u r:T}{ts l m:List T}
&au {g:T->T->Rs T}{x:Rs T}(ha:fa ρ= .ok t)(hb:fb ρ= .ok u)(hg:g t u=x):o2 g fa fb ρ=x:=by #,o2;rw [ha,hb];#hg
&om {g:T->Rs T}{x:Rs T}(ha:fa ρ= .ok t)(hg:g t=x):o1 g fa ρ=x:=by #,o1;rw [ha];#hg
&k_oD {g:T->T->Rs T}{x:Rs T}{ks vs:List T}(ha:fa ρ= .ok (.dct ks vs))(hb:fb ρ= .ok u)(hg:g (.dct ks vs) u=x):oD g fa fb ρ=x:=by #,oD;rw [ha];show(fb ρ >>= g (.dct ks vs))=_;rw [hb];#hg
&k_oL {g:T->T->Rs T}{x:Rs T}{ks:List T}(ha:fa ρ= .ok (.lst ks))(hb:fb ρ= .ok u)(hg:g (.lst ks) u=x):oL g fa fb ρ=x:=by #,oL;rw [ha];show(fb ρ >>= g (.lst ks))=_;rw [hb];#hg
&al (h:f ρ= .ok t)(hs:fs ρ= .ok ts):ac f fs ρ= .ok (t::ts):=by #,ac;rw [h,hs];rfl
&aM {g:List T->Rs T}{x:Rs T}(h:fs ρ= .ok ts)(hg:g ts=x):cl g fs ρ=x:=by #,cl;rw [h];#hg
&aY {k:Bool}(h:f ρ= .ok (.bl k)):tb f ρ= .ok k:=by #,tb;rw [h];rfl
&cR {k:Bool}(h:b ρ= .ok k):du b ρ= .ok (!k):=by #,du;rw [h];rfl
&lj (h:b ρ= .ok true):kF b c ρ= .ok true:=by #,kF;rw [h];rfl
&gv {x:Rs Bool}(h:b ρ= .ok false)(h2:c ρ=x):kF b c ρ=x:=by #,kF;rw [h];#h2
&yj (h:b ρ= .ok false):jT b c ρ= .ok false:=by #,jT;rw [h];rfl
&tF {x:Rs Bool}(h:b ρ= .ok true)(h2:c ρ=x):jT b c ρ=x:=by #,jT;rw [h];#h2
&k_and {p q:Bool}(h:b ρ= .ok p)(h2:p=true->c ρ= .ok q):jT b c ρ= .ok (p&&q):=by
 cases p with
 | false=>#yj h
 | true=>#tF h (h2 rfl)
&gF (h:fa ρ= .ok (.bl true)):cY fa fb ρ=fb ρ:=by #,cY;rw [h];rfl
&jo (h:fa ρ= .ok (.bl false)):cY fa fb ρ= .ok (.bl false):=by #,cY;rw [h];rfl
&uN {p q:Bool}(h:fa ρ= .ok (.bl p))(h2:p=true->fb ρ= .ok (.bl q)):cY fa fb ρ= .ok (.bl (p&&q)):=by
 cases p with
 | true=>rw [gF h,h2 rfl];rfl
 | false=>rw [jo h];rfl
&yb (h:fa ρ= .ok (.bl true)):orV fa fb ρ= .ok (.bl true):=by #,orV;rw [h];rfl
&yc (h:fa ρ= .ok (.bl false)):orV fa fb ρ=fb ρ:=by #,orV;rw [h];rfl
&yf {p:Bool}(h:b ρ= .ok p):ifE b fa fb ρ=if p then fa ρ else fb ρ:=by #,ifE;rw [h];rfl
&bJ {g:T->En->Rs En}(h:f ρ= .ok t)(hg:g t ρ= .ok ρ'):bQ f g ρ= .ok (.nx ρ'):=by #,bQ;rw [h];show(match g t ρ with | .ok ρ'=>Rs.ok (Fl.nx ρ') | _=> .bad)=_;rw [hg]
&yi {g:T->En->Rs En}{c:Str}(h:f ρ= .err c):bQ f g ρ= .err c:=by #,bQ;rw [h];rfl
&az (h:F ρ= .ok (.nx ρ')):ax F G ρ=G ρ':=by #,ax;rw [h];rfl
&cz (h:F ρ= .ok (.rt t)):ax F G ρ= .ok (.rt t):=by #,ax;rw [h];rfl
&ya (h:F ρ= .ok (.ct ρ')):ax F G ρ= .ok (.ct ρ'):=by #,ax;rw [h];rfl
&kS {c:Str}(h:F ρ= .err c):ax F G ρ= .err c:=by #,ax;rw [h];rfl
&bY (h:b ρ= .ok true):eI b F G ρ=F ρ:=by #,eI;rw [h];rfl
&cF (h:b ρ= .ok false):eI b F G ρ=G ρ:=by #,eI;rw [h];rfl
&bA (h:f ρ= .ok t):aL f ρ= .ok (.rt t):=by #,aL;rw [h];rfl
&tz {c:Str}(h:f ρ= .err c):aL f ρ= .err c:=by #,aL;rw [h];rfl
&k_ex (h:f ρ= .ok t):sEx f ρ= .ok (.nx ρ):=by #,sEx;rw [h];rfl
&k_exe {c:Str}(h:f ρ= .err c):sEx f ρ= .err c:=by #,sEx;rw [h];rfl
&dq {fi:En->Rs (List T)}{g:T->En->Rs En}{x:Fl}(h:fi ρ= .ok ts)(h2:aX g F ts ρ= .ok x):dA fi g F ρ= .ok x:=by #,dA;rw [h];show(match aX g F ts ρ with | .ok f=>Rs.ok f | _=> .bad)=_;rw [h2]
&cX {g:T->En->Rs En}(h:g t ρ= .ok ρ1)(h2:F ρ1= .ok (.nx ρ2)):aX g F (t::ts) ρ=aX g F ts ρ2:=by rw [aX,h];show(F ρ1 >>= _)=_;rw [h2];rfl
&k_loopc {g:T->En->Rs En}(h:g t ρ= .ok ρ1)(h2:F ρ1= .ok (.ct ρ2)):aX g F (t::ts) ρ=aX g F ts ρ2:=by rw [aX,h];show(F ρ1 >>= _)=_;rw [h2];rfl
&qk {g:T->En->Rs En}(h:g t ρ= .ok ρ1)(h2:F ρ1= .ok (.rt r)):aX g F (t::ts) ρ= .ok (.rt r):=by rw [aX,h];show(F ρ1 >>= _)=_;rw [h2];rfl
&m7 {n:Nat}(h:c ρ= .ok false):bv c F (n+1) ρ= .ok (.nx ρ):=by #,bv;rw [h]
&m6 {n:Nat}(h:c ρ= .ok true)(h2:F ρ= .ok (.nx ρ')):bv c F (n+1) ρ=bv c F n ρ':=by rw [bv,h];simp only [h2]
&x8 {n:Nat}(h:c ρ= .ok true)(h2:F ρ= .ok (.rt t)):bv c F (n+1) ρ= .ok (.rt t):=by rw [bv,h];simp only [h2]
&a8 {n m:Nat}(hl:ts.length=n)(h:F (bp m ts)= .ok (.rt t)):val n m F ts= .ok t:=by #,val;rw [if_pos hl];#,dt;rw [h];rfl
&m9 {n m:Nat}{c:Str}(hl:ts.length=n)(h:F (bp m ts)= .err c):val n m F ts= .err c:=by #,val;rw [if_pos hl];#,dt;rw [h];rfl
&k_valn {n m:Nat}(hl:ts.length=n)(h:F (bp m ts)= .ok (.nx ρ)):val n m F ts= .ok .non:=by #,val;rw [if_pos hl];#,dt;rw [h];rfl
&k_try {h:Str->Rs T}{k:Fl}(e:F ρ= .ok k):re F h ρ= .ok k:=by #,re;rw [e]
&tw {h:Str->Rs T}{c:Str}(e:F ρ= .err c)(e2:h c= .ok t):re F h ρ= .ok (.rt t):=by #,re;rw [e];simp only [e2]
&ng {fi:En->Rs (List T)}{src:List (Option Nat)}{fe:En->Rs T}{h:T->T}(hi:fi ρ= .ok ts)(hs:ts.length<=sizeLine)(hn:0<src.length)(hf:∀ t∈ts,fe ((bz src ρ).set 0 (.va t))= .ok (h t)) :
  dv fi src (gN 0) bT fe ρ= .ok (.lst (ts.map h)):=by
 have e:=tq (fe:=fe) (h:=h) ts (bz src ρ) (by #,bz;rw [List.length_map];#hn) hf
 #,dv
 rw [hi,aD,if_pos hs,e]
&uL {fi:En->Rs (List T)}{src:List (Option Nat)}{fc:En->Rs Bool}{fe:En->Rs T}{p:T->Bool}{h:T->T}(hi:fi ρ= .ok ts)(hs:ts.length<=sizeLine)(hn:0<src.length)
  (hf:∀ t∈ts,fc ((bz src ρ).set 0 (.va t))= .ok (p t)/\(p t=true->fe ((bz src ρ).set 0 (.va t))= .ok (h t))):dv fi src (gN 0) fc fe ρ= .ok (.lst ((ts.filter p).map h)):=by
 have e:=oM (fc:=fc) (fe:=fe) (p:=p) (h:=h) ts (bz src ρ) (by #,bz;rw [List.length_map];#hn) hf
 #,dv
 rw [hi,aD,if_pos hs,e]
&cm (h:fs ρ= .ok ts)(hl:ts.length<=sizeLine):aW fs ρ= .ok (.tup ts):=by #,aW;rw [h];show jG ts=_;#,jG;rw [if_pos hl]
&d9 (h:fs ρ= .ok ts)(hl:ts.length<=sizeLine):b7 fs ρ= .ok (.lst ts):=by #,b7;rw [h];show jH ts=_;#,jH;rw [if_pos hl]
&yd {f:En->Rs (List T)}{i:Nat}(h:f ρ= .ok l)(hi:i<ρ.length)(hl:l.length<=1000):iF i f ρ= .ok (.nx (ρ.set i (.ow (.lst l)))):=by
 #,iF;rw [h,aD,if_pos ⟨hi,aw hl (by omega)⟩]
&tD {i:Nat}(hi:i<ρ.length):iF i ah ρ= .ok (.nx (ρ.set i (.ow (.lst [])))):=yd rfl hi (Nat.zero_le _)
&nh {i:Nat}(h:f ρ= .ok t)(hi:ρ[i]? =some (.ow (.lst l)))(hl:l.length<=1000):ip i f ρ= .ok (.nx (ρ.set i (.ow (.lst (l++ [t]))))):=by
 #,ip;rw [hi];simp only [h,aD];rw [if_pos (by #,sizeLine;omega)]
&yg {i:Nat}(h:f ρ= .ok (.lst m))(hi:ρ[i]? =some (.ow (.lst l)))(hl:l.length+m.length<=1000):mn i f ρ= .ok (.nx (ρ.set i (.ow (.lst (l++m))))):=by
 #,mn;rw [hi];simp only [h,aD,extL];rw [if_pos (by #,sizeLine;omega)]
&k_iS (h:f ρ= .ok (.tup l)):iS f ρ= .ok l:=by #,iS;rw [h];rfl
&gQ (h:f ρ= .ok (.lst l)):iS f ρ= .ok l:=by #,iS;rw [h];rfl
&k_iEl (h:fs ρ= .ok [.lst l]):iE fs ρ= .ok (cp 0 l):=by #,iE;rw [h];rfl
&k_ixv {n:Nat}(e:l[n]? =some t):aN (.tup l) (.int (n:Int))= .ok t:=by show(match L2.atI l _ with | some t=>Rs.ok t | none=> .bad)=_;rw [i6 e]
&ye {n:Nat}(e:l[n]? =some t):aN (.lst l) (.int (n:Int))= .ok t:=by show(match L2.atI l _ with | some t=>Rs.ok t | none=> .bad)=_;rw [i6 e]
&k_ix {n:Nat}(h:fa ρ= .ok (.tup l))(h2:fb ρ= .ok (.int (n:Int)))(e:l[n]? =some t):o2 aN fa fb ρ= .ok t:=au h h2 (k_ixv e)
&uM {n:Nat}(h:fa ρ= .ok (.lst l))(h2:fb ρ= .ok (.int (n:Int)))(e:l[n]? =some t):o2 aN fa fb ρ= .ok t:=au h h2 (ye e)
&k_sl {fe:En->Rs T}{fl fu:En->Rs (Option Int)}{lo hi:Option Int}(h:fe ρ= .ok (.tup l))(h1:fl ρ= .ok lo)(h2:fu ρ= .ok hi):sl fe fl fu ρ= .ok (.tup (lG l lo hi)):=by
 #,sl;rw [h,h1,h2];rfl
&x9 {fe:En->Rs T}{fl fu:En->Rs (Option Int)}{lo hi:Option Int}(h:fe ρ= .ok (.lst l))(h1:fl ρ= .ok lo)(h2:fu ρ= .ok hi):sl fe fl fu ρ= .ok (.lst (lG l lo hi)):=by
 #,sl;rw [h,h1,h2];rfl
&k_pS {i:Int}(h:f ρ= .ok (.int i)):pS f ρ= .ok (some i):=by #,pS;rw [h];rfl
&sk (l:List T)(n:Nat):lG l none (some (n:Int))=l.take n:=by
 #,lG
 rw [HT.sIx_none,HT.sIx_nat,List.drop_zero,Nat.sub_zero,List.take_eq_take_iff]
 omega
&sy (l:List T)(n:Nat):lG l (some (n:Int)) none=l.drop n:=by
 #,lG
 rw [HT.sIx_none,HT.sIx_nat]
 by_cases h:n<=l.length
 ·rw [Nat.min_eq_left h]
  #List.take_of_length_le (by rw [List.length_drop];omega)
 ·rw [Nat.min_eq_right (by omega),List.drop_eq_nil_of_le (Nat.le_refl _),List.drop_eq_nil_of_le (by omega),List.take_nil]
&qi {ms:List (List T->Rs T)}{i:Nat}{g:List T->Rs T}{x:Rs T}(h0:f ρ= .ok (.int (i:Nat)))(hm:ms[i]? =some g)(hf:fs ρ= .ok ts)(hx:g ts=x):vk ms f fs ρ=x:=by
 #,vk;rw [h0,aD];simp only [i6 hm];rw [hf];#hx
&k_ln {i:Nat}{o:OT}(hi:ρ[i]? =some (.ow o))(h:f (disown i ρ)= .ok t)(hk:t.nk o.isD=true):ln i f ρ= .ok t:=by
 #,ln;rw [hi];simp only [h,aD,hk,if_true]
&k_lnB {i:Nat}{k:Bool}(h:b (disown i ρ)= .ok k):lnB i b ρ= .ok k:=h
&yh {i:Nat}{x:Rs Fl}(h:F (disown i ρ)=x):lx i F ρ=x:=h
end
&mk2 (a b:T):jG [a,b] = .ok (.tup [a,b]):=by #,jG;rw [if_pos (aw (k:=1000) (by simp only [List.length_cons,List.length_nil];omega))]
&fI (n:Nat):(rng 0 n).length=n:=by #,rng;rw [List.length_map,List.length_range];omega
end Tr
namespace G
open PySem Tr
def isI:T->Bool
 | .int _=>true
 | _=>false
&e_whole (t:T)(h:t.pl=true):dN [t] = .ok (.bl (isI t)):=by
 cases t <;> first | rfl | (simp [T.pl]at h;done)
def aQ (t:T)(a b:Int):Bool:=match t with
 | .int i=>decide (a<=i)&&decide (i<=b)
 | _=>false
&fx (t:T)(a b:Int)(h:t.pl=true):a6 [t,.int a,.int b] = .ok (.bl (aQ t a b)):=by
 have w:=e_whole t h
 &a8 rfl (bA (ρ:=[.va t,.va (.int a),.va (.int b)]) ?_)
 cases t with
 | int i=>
  &(gF (aM (ts:=[.int i]) rfl w)).trans ?_
  have e:aQ (.int i) a b=(decide (a<=i)&&decide (i<=b)):=rfl
  rw [e]
  cases q:decide (a<=i)with
  | true=>simp [ch,vr,qx,q]
  | false=>simp [ch,vr,qx,q]
 | _=>#jo (aM (ts:=[_]) rfl w)
def d8 (t:T)(a b:Nat):Bool:=match t with
 | .tup l=>decide (a<=l.length)&&decide (l.length<=b)
 | _=>false
&iX (t:T)(a b:Nat)(h:t.pl=true):aJ [t,.int a,.int b] = .ok (.bl (d8 t a b)):=by
 cases t with
 | tup l=>
  simp [aJ,val,dt,jx,bp,aL,cY,o1,vr,nS,T.ty,uP,ch,cl,ac,ah,bL,T.items,qx,d8]
  cases decide (a<=l.length) <;> rfl
 | scr _=>simp [T.pl]at h
 | dct _ _=>simp [T.pl]at h
 | _=>rfl
def n5 (x y:T):Bool:=aQ x 1 9&&(match x with
 | .int i=>aQ y i 9
 | _=>false)
&e_pace (x y:T)(hx:x.pl=true)(hy:y.pl=true):fN [x,y] = .ok (.bl (n5 x y)):=by
 have w:=fx x 1 9 hx
 #,n5
 cases q:aQ x 1 9 with
 | false=>rw [q]at w;simp [fN,val,dt,gR,bp,aL,cY,vr,cn,cl,ac,ah,w]
 | true=>
  rw [q]at w
  cases x with
  | int i=>simp [fN,val,dt,gR,bp,aL,cY,vr,cn,cl,ac,ah,w,fx y i 9 hy]
  | _=>cases q
def nR:List Int->Bool
 | a::b::r=>decide (a<b)&&nR (b::r)
 | _=>true
&ris2 (a b:Int)(r:List Int):nR (a::b::r)=(decide (a<b)&&nR (b::r)):=rfl
&qC {fe:En->Rs T}{p:T->Bool}{l:List T}{fi:En->Rs (List T)}{src:List (Option Nat)}{ρ:En}(hi:fi ρ= .ok l)(hs:l.length<=sizeLine)(hn:0<src.length)(hf:∀ t∈l,fe ((bz src ρ).set 0 (.va t))= .ok (.bl (p t))) :
  cl nN (ac (dv fi src (gN 0) bT fe) ah) ρ= .ok (.bl (l.all p)):=by
 have e:=tq (fe:=fe) (h:=fun t=>T.bl (p t)) l (bz src ρ) (by #,bz;rw [List.length_map];#hn) hf
 simp only [cl,ac,ah,dv,hi,aD,if_pos hs,e,all_map]
def kQ (l:List T):T->Bool
 | .int k=>match L2.atI l k,L2.atI l (k+1)with
  | some (.int a),some (.int b)=>decide (a<b)
  | _,_=>false
 | _=>false
&fH {t:T}{j:Int}(h:t∈rng 0 j):∃ k:Nat,t= .int k/\(k:Int)<j:=by
 unfold rng at h
 &⟨k,hk,e⟩:=List.mem_map.mp h
 rw [List.mem_range]at hk
 #⟨k,by rw [<-e];simp,by omega⟩
&ris_at:(l:List Int)->l.length<=4->(rng 0 ((l.length:Int) - 1)).all (kQ (l.map .int))=nR l
 | [],_=>rfl
 | [a],_=>rfl
 | [a,b],_=>by simp [rng,List.range_succ,kQ,L2.atI,L2.ixN,nR]
 | [a,b,c],_=>by simp [rng,List.range_succ,kQ,L2.atI,L2.ixN,nR]
 | [a,b,c,d],_=>by simp [rng,List.range_succ,kQ,L2.atI,L2.ixN,nR,Bool.and_assoc]
 | a::b::c::d::e::r,h=>absurd h (by simp only [List.length_cons];omega)
&e_rises (l:List Int)(h:l.length<=4):jk [.tup (l.map .int)] = .ok (.bl (nR l)):=by
 have hr:iR (ac (o2 cQ (cl bL (ac (vr 0) ah)) (cn (.int 1))) ah) [.va (.tup (l.map .int))] = .ok (rng 0 ((l.length:Int) - 1)):=by
  have:tJ ((l.length:Int) - 1)=true:=by #,tJ;rw [Bool.and_eq_true];#⟨decide_eq_true (by omega),decide_eq_true (by omega)⟩
  simp [iR,ac,ah,o2,cl,vr,cn,bL,T.items,cQ,this]
 have hs:(rng 0 ((l.length:Int) - 1)).length<=sizeLine:=by
  #,rng sizeLine;rw [List.length_map,List.length_range];omega
 have e:=qC (fe:=o2 mS (o2 aN (vr 1) (vr 0)) (o2 aN (vr 1) (o2 aH (vr 0) (cn (.int 1))))) (p:=kQ (l.map .int)) (src:=[none,some 0]) hr hs (by decide) (fun t ht=>by
  &⟨k,rfl,hk⟩:=fH ht
  have h1:(l.map T.int)[k]? =some (.int (l[k]'(by omega))):=by simp
  have h2:(l.map T.int)[k+1]? =some (.int (l[k+1]'(by omega))):=by rw [List.getElem?_map,List.getElem?_eq_getElem (by omega)];rfl
  have g1:=i6 h1
  have g2:L2.atI (l.map T.int) ((k:Int)+1)=some (.int (l[k+1]'(by omega))):=i6 h2
  simp [o2,vr,bz,cn,aH,aN,T.items,g1,g2,qx,kQ])
 rw [ris_at l h]at e
 simp only [jk,val,List.length_singleton,if_true,lS,dt,aL,bp]
 show(do let f <-(do let t <-cl nN _ [.va (.tup (l.map .int))];Rs.ok (Fl.rt t));_)=_
 rw [e]
 rfl
def km:List T->Option (List Int)
 | [] =>some []
 | .int i::l=>match km l with
  | some m=>some (i::m)
  | none=>none
 | _::_=>none
def c8 (t:T):Bool:=d8 t 1 4&&(match t with
 | .tup l=>l.all (fun u=>aQ u 0 99)&&(match km l with | some m=>nR m | none=>false)
 | _=>false)
&mM:∀ {l:List T} {m:List Int},km l=some m->l=m.map .int
 | [],m,h=>by cases h;rfl
 | t::l,m,h=>by
  cases t with
  | int i=>
   unfold km at h
   cases q:km l with
   | none=>rw [q]at h;cases h
   | some m'=>rw [q]at h;cases h;rw [List.map_cons,<-mM q]
  | _=>cases h
&p9:∀ {l:List T} {a b:Int},(l.all fun u=>aQ u a b)=true->∃ m,km l=some m
 | [],_,_,_=>⟨[],rfl⟩
 | t::l,a,b,h=>by
  rw [List.all_cons,Bool.and_eq_true]at h
  cases t with
  | int i=>
   &⟨m,e⟩:=p9 h.2
   #⟨i::m,by #,km;rw [e]⟩
  | _=>#absurd h.1 (by simp [aQ])
&di {t:T}{a b:Nat}(h:d8 t a b=true):∃ l,t= .tup l/\a<=l.length/\l.length<=b:=by
 cases t with
 | tup l=>unfold d8 at h;rw [Bool.and_eq_true]at h;#⟨l,rfl,of_decide_eq_true h.1,of_decide_eq_true h.2⟩
 | _=>cases h
&small {n k:Nat}(h:n<=k)(hk:k<=1000:=by decide):n<=sizeLine:=by #,sizeLine;omega
&tM (t:T)(h:t.pl=true):bN [t] = .ok (.bl (c8 t)):=by
 have w:aJ [t,.int 1,.int 4] = .ok (.bl (d8 t 1 4)):=iX t 1 4 h
 #,c8
 cases q:d8 t 1 4 with
 | false=>rw [q]at w;simp [bN,val,dt,cK,bp,ax,eI,du,tb,sN,aL,cl,vr,cn,ac,ah,w]
 | true=>
  rw [q]at w
  &⟨l,rfl,h1,h2⟩:=di q
  have hp:∀ u∈l,u.pl=true:=fun u hu=>gX (by unfold T.pl at h;#h) hu
  have e:=qC (fe:=cl a6 (ac (vr 0) (ac (cn (.int 0)) (ac (cn (.int 99)) ah)))) (p:=fun u=>aQ u 0 99) (src:=[none]) (fi:=iS (vr 0)) (ρ:=[.va (.tup l)]) rfl (small h2) (by decide) (fun u hu=>by
   simp [cl,ac,ah,vr,cn,bz,fx u 0 99 (hp u hu)])
  have w':cl aJ (ac (vr 0) (ac (cn (.int 1)) (ac (cn (.int 4)) ah))) [.va (.tup l)] = .ok (.bl true):=w
  show bN _= .ok (.bl (true&&(l.all (fun u=>aQ u 0 99)&&(match km l with | some m=>nR m | none=>false))))
  cases qa:l.all fun u=>aQ u 0 99 with
  | false=>
   rw [qa]at e
   simp [bN,val,dt,cK,bp,ax,eI,du,tb,sN,aL,cY,e,w']
  | true=>
   rw [qa]at e
   &⟨m,em⟩:=p9 qa
   have el:=mM em
   have er:=e_rises m (by rw [el,List.length_map]at h2;#h2)
   rw [<-el]at er
   have er':cl jk (ac (vr 0) ah) [.va (.tup l)] = .ok (.bl (nR m)):=er
   simp [bN,val,dt,cK,bp,ax,eI,du,tb,sN,aL,cY,e,w',er',em]
def at_ (t:T)(k:Nat):T:=match t.items with
 | some l=>l.getD k .non
 | none=> .non
def bF (t:T):Bool:=d8 t 3 3&&(match t with
 | .tup [x,y,r] =>n5 x y&&c8 r
 | _=>false)
&e_clock (t:T)(h:t.pl=true):dg [t] = .ok (.bl (bF t)):=by
 have w:aJ [t,.int 3,.int 3] = .ok (.bl (d8 t 3 3)):=iX t 3 3 h
 #,bF
 cases q:d8 t 3 3 with
 | false=>rw [q]at w;simp [dg,val,dt,eV,bp,aL,cY,cl,vr,cn,ac,ah,w]
 | true=>
  rw [q]at w
  &⟨l,rfl,h1,h2⟩:=di q
  match l,h1,h2 with
  | [x,y,r],_,_=>
   simp [T.pl,plS]at h
   &⟨px,py,pr⟩:=h
   have g0:aN (.tup [x,y,r]) (.int 0)= .ok x:=rfl
   have g1:aN (.tup [x,y,r]) (.int 1)= .ok y:=rfl
   have g2:aN (.tup [x,y,r]) (.int 2)= .ok r:=rfl
   have ep:=e_pace x y px py
   have er:=tM r pr
   cases qp:n5 x y with
   | false=>rw [qp]at ep;simp [dg,val,dt,eV,bp,aL,cY,cl,vr,cn,ac,ah,o2,w,g0,g1,ep,qp]
   | true=>rw [qp]at ep;simp [dg,val,dt,eV,bp,aL,cY,cl,vr,cn,ac,ah,o2,w,g0,g1,g2,ep,er,qp]
def bc (t:T):Bool:=d8 t 1 4&&(match t with
 | .tup l=>l.all bF
 | _=>false)
&yK (t:T)(h:t.pl=true):dm [t] = .ok (.bl (bc t)):=by
 have w:aJ [t,.int 1,.int 4] = .ok (.bl (d8 t 1 4)):=iX t 1 4 h
 #,bc
 cases q:d8 t 1 4 with
 | false=>rw [q]at w;simp [dm,val,dt,ef,bp,aL,cY,cl,vr,cn,ac,ah,w]
 | true=>
  rw [q]at w
  &⟨l,rfl,h1,h2⟩:=di q
  have hp:∀ u∈l,u.pl=true:=fun u hu=>gX (by unfold T.pl at h;#h) hu
  have e:=qC (fe:=cl dg (ac (vr 0) ah)) (p:=bF) (src:=[none]) (fi:=iS (vr 0)) (ρ:=[.va (.tup l)]) rfl (small h2) (by decide) (fun u hu=>by
   simp [cl,ac,ah,vr,cn,bz,e_clock u (hp u hu)])
  have w':cl aJ (ac (vr 0) (ac (cn (.int 1)) (ac (cn (.int 4)) ah))) [.va (.tup l)] = .ok (.bl true):=w
  simp [dm,val,dt,ef,bp,aL,cY,e,w']
def e9 (x y:T):Bool:=aQ x 0 999&&(match x,y with
 | _,.non=>true
 | .int i,_=>aQ y i 999
 | _,_=>false)
&e_delay (x y:T)(hx:x.pl=true)(hy:y.pl=true):g9 [x,y] = .ok (.bl (e9 x y)):=by
 have w:=fx x 0 999 hx
 &a8 rfl (bA (ρ:=[.va x,.va y]) ?_)
 #,e9
 cases q:aQ x 0 999 with
 | false=>rw [q]at w;#jo (aM (ts:=[x,.int 0,.int 999]) rfl w)
 | true=>
  rw [q]at w
  &(gF (aM (ts:=[x,.int 0,.int 999]) rfl w)).trans ?_
  obtain⟨i,rfl,_⟩:∃ i,x= .int i/\True:=by
   cases x with
   | int i=>#⟨i,rfl,trivial⟩
   | _=>cases q
  have e:=fx y i 999 hy
  cases y with
  | non=>#yb (au (t:=.non) (u:=.non) rfl rfl rfl)
  | _=>#(yc (au (t:=_) (u:=.non) rfl rfl rfl)).trans (aM (ts:=[_,.int i,.int 999]) rfl e)
def reads (cs:List T)(c:Int):Nat:=if 0<=c then(match cs[c.toNat]? with
 | some (.tup [_,_,.tup r])=>r.length
 | _=>0)else 0
def bo (cs:List T)(t:T):Bool:=match t with
 | .tup [.int c,.int k] =>decide (0<=c)&&decide (c<cs.length)&&(decide (0<=k)&&decide (k<reads cs c))
 | _=>false
&lr {t:T}(h:bF t=true):∃ x y r,t= .tup [x,y,.tup r]:=by
 unfold bF at h
 rw [Bool.and_eq_true]at h
 &⟨h1,h2⟩:=h
 &⟨l,rfl,h3,h4⟩:=di h1
 match l,h3,h4,h2 with
 | [x,y,r],_,_,h2=>
  simp only [Bool.and_eq_true]at h2
  &⟨_,h5⟩:=h2
  unfold c8 at h5
  rw [Bool.and_eq_true]at h5
  &⟨m,rfl,_⟩:=di h5.1
  #⟨x,y,m,rfl⟩
&da {t:T}{a b:Int}(h:aQ t a b=true):∃ i,t= .int i/\a<=i/\i<=b:=by
 cases t with
 | int i=>unfold aQ at h;rw [Bool.and_eq_true]at h;#⟨i,rfl,of_decide_eq_true h.1,of_decide_eq_true h.2⟩
 | _=>cases h
&uV (cs:List T)(t:T)(hc:bc (.tup cs)=true)(h:t.pl=true):gc [.tup cs,t] = .ok (.bl (bo cs t)):=by
 have w:aJ [t,.int 2,.int 2] = .ok (.bl (d8 t 2 2)):=iX t 2 2 h
 cases q:d8 t 2 2 with
 | false=>
  rw [q]at w
  have:bo cs t=false:=by
   #,bo
   split
   ·cases q
   ·rfl
  rw [this]
  #a8 rfl (cz (ρ:=[.va (.tup cs),.va t]) ((bY (lj (cR (k:=false) (aY (aM (ts:=[t,.int 2,.int 2]) rfl w))))).trans (bA rfl)))
 | true=>
  rw [q]at w
  &⟨l,rfl,h1,h2⟩:=di q
  match l,h1,h2 with
  | [x,y],_,_=>
   simp [T.pl,plS]at h
   &⟨px,py⟩:=h
   have g0:aN (.tup [x,y]) (.int 0)= .ok x:=rfl
   have g1:aN (.tup [x,y]) (.int 1)= .ok y:=rfl
   have gl:bL [.tup cs] = .ok (.int cs.length):=rfl
   have e1:=fx x 0 ((cs.length:Int) - 1) px
   cases q1:aQ x 0 ((cs.length:Int) - 1)with
   | false=>
    rw [q1]at e1
    have:bo cs (.tup [x,y])=false:=by
     cases x with
     | int c=>
      cases y with
      | int k=>
       simp only [aQ,Bool.and_eq_false_iff,decide_eq_false_iff_not]at q1
       simp only [bo,Bool.and_eq_false_iff,decide_eq_false_iff_not]
       omega
      | _=>rfl
     | _=>rfl
    rw [this]
    #a8 rfl (cz (ρ:=[.va (.tup cs),.va (.tup [x,y])]) ((bY (gv (cR (k:=true) (aY (aM (ts:=[.tup [x,y],.int 2,.int 2]) rfl w))) (cR (k:=false) (aY (aM (ts:=[x,.int 0,.int ((cs.length:Int) - 1)]) (al (au (t:=.tup [x,y]) (u:=.int 0) rfl rfl g0) (al rfl (al (au (t:=.int cs.length) (u:=.int 1) (aM (ts:=[.tup cs]) rfl gl) rfl rfl) rfl))) e1))))).trans (bA rfl)))
   | true=>
    rw [q1]at e1
    &⟨c,rfl,c1,c2⟩:=da q1
    &⟨n,rfl⟩:=Int.eq_ofNat_of_zero_le c1
    have hn:n<cs.length:=by omega
    have hcl:bF cs[n] =true:=by
     unfold bc at hc
     rw [Bool.and_eq_true]at hc
     #List.all_eq_true.mp hc.2 _ (List.getElem_mem hn)
    &⟨a,b,r,er⟩:=lr hcl
    have g2:aN (.tup cs) (.int (n:Int))= .ok (.tup [a,b,.tup r]):=by
     simp only [aN,T.items]
     rw [i6 (List.getElem?_eq_getElem hn),er]
    have g3:aN (.tup [a,b,.tup r]) (.int 2)= .ok (.tup r):=rfl
    have gr:bL [.tup r] = .ok (.int r.length):=rfl
    have e2:=fx y 0 ((r.length:Int) - 1) py
    have:bo cs (.tup [.int n,y])=aQ y 0 ((r.length:Int) - 1):=by
     have er2:reads cs (n:Int)=r.length:=by
      #,reads
      rw [if_pos c1,Int.toNat_natCast,List.getElem?_eq_getElem hn,er]
     cases y with
     | int k=>
      simp only [bo,aQ,er2]
      rw [decide_eq_true c1,decide_eq_true (show(n:Int)<cs.length by omega)]
      simp only [Bool.true_and]
      congr 1
      #decide_eq_decide.mpr (by omega)
     | _=>rfl
    rw [this]
    #a8 rfl ((az (ρ:=[.va (.tup cs),.va (.tup [.int n,y])]) ((cF (gv (cR (k:=true) (aY (aM (ts:=[.tup [.int n,y],.int 2,.int 2]) rfl w))) (cR (k:=true) (aY (aM (ts:=[.int n,.int 0,.int ((cs.length:Int) - 1)]) (al (au (t:=.tup [.int n,y]) (u:=.int 0) rfl rfl g0) (al rfl (al (au (t:=.int cs.length) (u:=.int 1) (aM (ts:=[.tup cs]) rfl gl) rfl rfl) rfl))) e1))))).trans rfl)).trans
     (bA (aM (ts:=[y,.int 0,.int ((r.length:Int) - 1)]) (al (au (t:=.tup [.int n,y]) (u:=.int 1) rfl rfl g1) (al rfl (al (au (t:=.int r.length) (u:=.int 1) (aM (ts:=[.tup r]) (al (au (t:=.tup [a,b,.tup r]) (u:=.int 2) (au (t:=.tup cs) (u:=.int n) rfl (au (t:=.tup [.int n,y]) (u:=.int 0) rfl rfl g0) g2) rfl g3) rfl) gr) rfl rfl) rfl))) e2)))
def bK (cs:List T)(t:T):Bool:=match t with
 | .tup [a,b,x,y] =>e9 x y&&(bo cs a&&(bo cs b&& !aZ a b))
 | _=>false
&fw {cs:List T}{t:T}(h:bo cs t=true):∃ c k:Int,t= .tup [.int c,.int k]:=by
 unfold bo at h
 split at h
 ·#⟨_,_,rfl⟩
 ·cases h
&yI (cs:List T)(t:T)(hc:bc (.tup cs)=true)(h:t.pl=true):fm [.tup cs,t] = .ok (.bl (bK cs t)):=by
 have w:aJ [t,.int 4,.int 4] = .ok (.bl (d8 t 4 4)):=iX t 4 4 h
 cases q:d8 t 4 4 with
 | false=>
  rw [q]at w
  have:bK cs t=false:=by
   #,bK
   split
   ·cases q
   ·rfl
  rw [this]
  #a8 rfl (cz (ρ:=[.va (.tup cs),.va t]) ((bY (lj (cR (k:=false) (aY (aM (ts:=[t,.int 4,.int 4]) rfl w))))).trans (bA rfl)))
 | true=>
  rw [q]at w
  &⟨l,rfl,h1,h2⟩:=di q
  match l,h1,h2 with
  | [a,b,x,y],_,_=>
   simp [T.pl,plS]at h
   &⟨pa,pb,px,py⟩:=h
   have g0:o2 aN (vr 1) (cn (.int 0)) [.va (.tup cs),.va (.tup [a,b,x,y])] = .ok a:=rfl
   have g1:o2 aN (vr 1) (cn (.int 1)) [.va (.tup cs),.va (.tup [a,b,x,y])] = .ok b:=rfl
   have dl:=gv (ρ:=[.va (.tup cs),.va (.tup [a,b,x,y])]) (cR (k:=true) (aY (aM (fs:=ac (vr 1) (ac (cn (.int 4)) (ac (cn (.int 4)) ah))) (ts:=[.tup [a,b,x,y],.int 4,.int 4]) rfl w))) (cR (aY (aM (fs:=ac (o2 aN (vr 1) (cn (.int 2))) (ac (o2 aN (vr 1) (cn (.int 3))) ah)) (ts:=[x,y]) rfl (e_delay x y px py))))
   show _=Rs.ok (T.bl (e9 x y&&(bo cs a&&(bo cs b&& !aZ a b))))
   cases q1:e9 x y with
   | false=>
    rw [q1]at dl
    #a8 rfl (cz ((bY dl).trans (bA rfl)))
   | true=>
    rw [q1]at dl
    &a8 rfl ((az ((cF dl).trans rfl)).trans (bA ?_))
    rw [Bool.true_and]
    &uN (aM (ts:=[.tup cs,a]) (al rfl (al g0 rfl)) (uV cs a hc pa)) fun q2=>uN (aM (ts:=[.tup cs,b]) (al rfl (al g1 rfl)) (uV cs b hc pb)) fun _=>au g0 g1 ?_
    &⟨c,k,rfl⟩:=fw q2
    #,lz
    rw [if_pos (fq (by simp [T.dep,deps]) rfl (T.pl_nd _ pb))]
def jp (cs:List T)(t:T):Bool:=d8 t 0 8&&(match t with
 | .tup l=>l.all (bK cs)
 | _=>false)
&vX (cs:List T)(t:T)(hc:bc (.tup cs)=true)(h:t.pl=true):cS [.tup cs,t] = .ok (.bl (jp cs t)):=by
 have w:aJ [t,.int 0,.int 8] = .ok (.bl (d8 t 0 8)):=iX t 0 8 h
 #,jp
 cases q:d8 t 0 8 with
 | false=>rw [q]at w;simp [cS,val,dt,dG,bp,aL,cY,cl,vr,cn,ac,ah,w]
 | true=>
  rw [q]at w
  &⟨l,rfl,h1,h2⟩:=di q
  have hp:∀ u∈l,u.pl=true:=fun u hu=>gX (by unfold T.pl at h;#h) hu
  have e:=qC (fe:=cl fm (ac (vr 1) (ac (vr 0) ah))) (p:=bK cs) (src:=[none,some 0]) (fi:=iS (vr 1)) (ρ:=[.va (.tup cs),.va (.tup l)]) rfl (small h2) (by decide) (fun u hu=>by
   simp [cl,ac,ah,vr,cn,bz,yI cs u hc (hp u hu)])
  have w':cl aJ (ac (vr 1) (ac (cn (.int 0)) (ac (cn (.int 8)) ah))) [.va (.tup cs),.va (.tup l)] = .ok (.bl true):=w
  simp [cS,val,dt,dG,bp,aL,cY,e,w']
def gw (t:T):Bool:=match t with
 | .tup [.tup cs,ls] =>bc (.tup cs)&&jp cs ls
 | _=>false
&r8 (t:T)(h:t.pl=true):gq [t] = .ok (.bl (gw t)):=by
 have w:aJ [t,.int 2,.int 2] = .ok (.bl (d8 t 2 2)):=iX t 2 2 h
 cases q:d8 t 2 2 with
 | false=>
  rw [q]at w
  have:gw t=false:=by
   #,gw
   split
   ·cases q
   ·rfl
  rw [this]
  #a8 rfl (bA (ρ:=[.va t]) (jo (aM (ts:=[t,.int 2,.int 2]) rfl w)))
 | true=>
  rw [q]at w
  &⟨l,rfl,h1,h2⟩:=di q
  match l,h1,h2 with
  | [x,y],_,_=>
   simp [T.pl,plS]at h
   &⟨px,py⟩:=h
   have g0:aN (.tup [x,y]) (.int 0)= .ok x:=rfl
   have g1:aN (.tup [x,y]) (.int 1)= .ok y:=rfl
   have e1:=yK x px
   cases q1:bc x with
   | false=>
    rw [q1]at e1
    have:gw (.tup [x,y])=false:=by
     cases x with
     | tup cs=>show(bc (.tup cs)&&_)=false;rw [q1];rfl
     | _=>rfl
    rw [this]
    #a8 rfl (bA (ρ:=[.va (.tup [x,y])]) ((gF (aM (ts:=[.tup [x,y],.int 2,.int 2]) rfl w)).trans (jo (aM (ts:=[x]) (al (au (t:=.tup [x,y]) (u:=.int 0) rfl rfl g0) rfl) e1))))
   | true=>
    rw [q1]at e1
    cases x with
    | tup cs=>
     have e2:=vX cs y q1 py
     have:gw (.tup [.tup cs,y])=jp cs y:=by show(bc (.tup cs)&&_)=_;rw [q1];rfl
     rw [this]
     #a8 rfl (bA (ρ:=[.va (.tup [.tup cs,y])]) ((gF (aM (ts:=[.tup [.tup cs,y],.int 2,.int 2]) rfl w)).trans ((gF (aM (ts:=[.tup cs]) (al (au (t:=.tup [.tup cs,y]) (u:=.int 0) rfl rfl g0) rfl) e1)).trans (aM (ts:=[.tup cs,y]) (al (au (t:=.tup [.tup cs,y]) (u:=.int 0) rfl rfl g0) (al (au (t:=.tup [.tup cs,y]) (u:=.int 1) rfl rfl g1) rfl)) e2))))
    | _=>cases q1
&ne_int (a b:Int):lz (.int a) (.int b)= .ok (.bl (!(a == b))):=by
 #,lz
 rw [if_pos (fq (by simp [T.dep]) rfl rfl)]
 rfl
&fO:∀ m:List Int,deps (m.map .int)=0
 | [] =>rfl
 | a::m=>by rw [List.map_cons,deps,fO m];rfl
def lE (i n:Nat):List T:=(rng 0 n).map fun t=>T.tup [.int i,t]
def rdN:T->Nat
 | .tup [_,_,.tup r] =>r.length
 | _=>0
def ft:Nat->List T->List T
 | _,[] => []
 | i,c::r=>lE i (rdN c)++ft (i+1) r
&gx {t:T}(h:bF t=true):∃ x y r,t= .tup [x,y,.tup r]/\1<=r.length/\r.length<=4:=by
 &⟨x,y,r,rfl⟩:=lr h
 have:c8 (.tup r)=true:=by
  have h':(n5 x y&&c8 (.tup r))=true:=h
  rw [Bool.and_eq_true]at h'
  #h'.2
 unfold c8 at this
 rw [Bool.and_eq_true]at this
 &⟨l,e,h1,h2⟩:=di this.1
 cases e
 #⟨x,y,r,rfl,h1,h2⟩
&iW (i n:Nat):(lE i n).length=n:=by #,lE;rw [List.length_map,fI]
abbrev evF:En->Rs Fl:=bQ (o2 aH (vr 1) (dv (iR (ac (cl bL (ac (o2 aN (vr 3) (cn (.int 2))) ah)) ah)) [none,some 2] (gN 0) bT (aW (ac (vr 1) (ac (vr 0) ah))))) (gN 1)
abbrev evG:T->En->Rs En:=gT 2 (dO (gN 2) (dO (gN 3) lm))
&iR1 {f:En->Rs (List T)}{ρ:En}{j:Int}(h:f ρ= .ok [.int j])(h0:0<=j)(h1:j<=100000):iR f ρ= .ok (rng 0 j):=by
 have e:tJ j=true:=by #,tJ;rw [Bool.and_eq_true];#⟨decide_eq_true (by omega),decide_eq_true (by omega)⟩
 #,iR
 rw [h]
 show(if tJ j=true then _ else _)=_
 rw [e];rfl
&fL (l m:List T)(h:(l++m).length<=1000):aH (.lst l) (.lst m)= .ok (.lst (l++m)):=by
 show jH (l++m)=_
 #,jH
 rw [if_pos (aw h)]
&add_tup (l m:List T)(h:(l++m).length<=1000):aH (.tup l) (.tup m)= .ok (.tup (l++m)):=by
 show jG (l++m)=_
 #,jG
 rw [if_pos (aw h)]
&ev_lc (c0 acc x y:T)(r:List T)(i:Nat)(h:r.length<=4) :
  dv (iR (ac (cl bL (ac (o2 aN (vr 3) (cn (.int 2))) ah)) ah)) [none,some 2] (gN 0) bT (aW (ac (vr 1) (ac (vr 0) ah))) [.va c0,.va acc,.va (.int i),.va (.tup [x,y,.tup r])] = .ok (.lst (lE i r.length)):=
 ng (iR1 (j:=(r.length:Int)) rfl (by omega) (by omega)) (aw (k:=4) (by rw [fI];#h)) (by simp) fun t _=>mk2 _ _
&ev_step (c0 x y:T)(acc r:List T)(i:Nat)(h:r.length<=4)(ha:acc.length<=100):evF [.va c0,.va (.lst acc),.va (.int i),.va (.tup [x,y,.tup r])] = .ok (.nx [.va c0,.va (.lst (acc++lE i r.length)),.va (.int i),.va (.tup [x,y,.tup r])]):=
 bJ (au (t:=.lst acc) rfl (ev_lc c0 (.lst acc) x y r i h) (fL _ _ (by rw [List.length_append,iW];omega))) rfl
&uT:∀ (cs:List T) (c0:T) (acc:List T) (i:Nat) (s2 s3:Sl),(∀c∈cs,bF c=true)->acc.length+4*cs.length<=100 →
  ∃y2 y3,aX evG evF (cp i cs) [.va c0,.va (.lst acc),s2,s3] = .ok (.nx [.va c0,.va (.lst (acc++ft i cs)),y2,y3])
 | [],c0,acc,i,s2,s3,_,_=>⟨s2,s3,by simp [cp,aX,ft]⟩
 | c::cs,c0,acc,i,s2,s3,hc,hl=>by
  &⟨x,y,r,rfl,r1,r2⟩:=gx (hc c List.mem_cons_self)
  rw [List.length_cons]at hl
  &⟨z2,z3,ih⟩:=uT cs c0 (acc++lE i r.length) (i+1) (.va (.int i)) (.va (.tup [x,y,.tup r])) (fun c h=>hc c (List.mem_cons_of_mem _ h)) (by rw [List.length_append,iW];omega)
  &⟨z2,z3,?_⟩
  rw [cp,cX (ρ1:=[.va c0,.va (.lst acc),.va (.int i),.va (.tup [x,y,.tup r])]) rfl (ev_step c0 x y acc r i r2 (by omega)),ih,ft,List.append_assoc]
  rfl
&dk {cs:List T}(hc:bc (.tup cs)=true):(∀c∈cs,bF c=true)/\1<=cs.length/\cs.length<=4:=by
 unfold bc at hc
 rw [Bool.and_eq_true]at hc
 &⟨l,e,h1,h2⟩:=di hc.1
 cases e
 #⟨fun c h=>List.all_eq_true.mp hc.2 c h,h1,h2⟩
&sd (cs:List T)(hc:bc (.tup cs)=true):cy [.tup cs] = .ok (.lst (ft 0 cs)):=by
 &⟨ha,h1,h2⟩:=dk hc
 &⟨y2,y3,e⟩:=uT cs (.tup cs) [] 0 .em .em ha (by simp;omega)
 rw [List.nil_append]at e
 &a8 rfl ?_
 #,fg
 rw [az (ρ':=[.va (.tup cs),.va (.lst []),.em,.em]) rfl,az ((dq (ts:=cp 0 cs) rfl e))]
 rfl
&uv {n k:Nat}(h:k<n):T.int (k:Int)∈rng 0 (n:Int):=by
 #,rng
 #List.mem_map.mpr ⟨k,List.mem_range.mpr (by omega),by simp⟩
&oE (cs:List T)(c:Nat):reads cs (c:Int)=rdN (cs.getD c .non):=by
 #,reads
 rw [if_pos (by omega),Int.toNat_natCast,List.getD_eq_getElem?_getD]
 cases cs[c]? with
 | none=>rfl
 | some t=>
  cases t with
  | tup l=>
   match l with
   | [] =>rfl
   | [_] =>rfl
   | [_,_] =>rfl
   | [_,_,z] =>cases z <;> rfl
   | _::_::z::_::_=>cases z <;> rfl
  | _=>rfl
&mT {g:T->En->Rs En}{F:En->Rs Fl}{p:T->Bool}(J:En->Prop):∀ (ts:List T),(∀t∈ts,∀ρ,J ρ->∃ ρ1,g t ρ= .ok ρ1/\(p t=true->∃ ρ2,F ρ1= .ok (.nx ρ2)/\J ρ2)/\(p t=false->F ρ1= .ok (.rt (.bl false)))) →
  ∀ρ,J ρ->(ts.all p=true->∃ ρ',aX g F ts ρ= .ok (.nx ρ')/\J ρ')/\(ts.all p=false->aX g F ts ρ= .ok (.rt (.bl false)))
 | [],_,ρ,hj=>⟨fun _=>⟨ρ,rfl,hj⟩,fun h=>(by cases h)⟩
 | t::ts,hs,ρ,hj=>by
  &⟨ρ1,h1,h2,h3⟩:=hs t List.mem_cons_self ρ hj
  rw [List.all_cons]
  cases q:p t with
  | false=>#⟨fun h=>(by cases h),fun _=>qk h1 (h3 q)⟩
  | true=>
   &⟨ρ2,e2,j2⟩:=h2 q
   rw [cX h1 e2,Bool.true_and]
   #mT J ts (fun t ht=>hs t (List.mem_cons_of_mem _ ht)) ρ2 j2
mutual
def sm (n:Nat):T->Bool
 | .dct _ _=>false
 | .scr _=>false
 | .tup l=>decide (l.length<=n)&&sms n l
 | .lst l=>decide (l.length<=n)&&sms n l
 | _=>true
def sms (n:Nat):List T->Bool
 | [] =>true
 | t::l=>sm n t&&sms n l
end
mutual
theorem sm_pl {n:Nat}:∀ (t:T),sm n t=true->t.pl=true
 | .scr _,h=>by simp [sm]at h
 | .dct _ _,h=>by simp [sm]at h
 | .tup l,h=>by rw [sm,Bool.and_eq_true]at h;rw [T.pl];#sms_pl l h.2
 | .lst l,h=>by rw [sm,Bool.and_eq_true]at h;rw [T.pl];#sms_pl l h.2
 | .non,_=>by simp [T.pl]
 | .bl _,_=>by simp [T.pl]
 | .int _,_=>by simp [T.pl]
 | .str _,_=>by simp [T.pl]
theorem sms_pl {n:Nat}:∀ (l:List T),sms n l=true->plS l=true
 | [],_=>by simp [plS]
 | t::l,h=>by rw [sms,Bool.and_eq_true]at h;rw [plS,sm_pl t h.1,sms_pl l h.2];rfl
end
&ub {n:Nat}:∀ {l:List T},sms n l=true↔ ∀t∈l,sm n t=true
 | [] =>by simp [sms]
 | t::l=>by rw [sms,Bool.and_eq_true,ub (l:=l)];simp
&sm_tup {n:Nat}{l:List T}:sm n (.tup l)=true↔l.length<=n/\∀ t∈l,sm n t=true:=by rw [sm,Bool.and_eq_true,ub,decide_eq_true_iff]
&f9 {i j:Int}(h:0<j):fh (.int i) (.int j)= .ok (.int (i % j)):=by show(if _ then _ else _)=_;rw [if_pos h]
&jv {i j:Int}(h:0<j)(h2:j<1073741824):iV (.int i) (.int j)= .ok (.int (i / j)):=by show(if _ then _ else _)=_;rw [if_pos ⟨h,h2⟩]
&ko {i j:Int}(h : -18446744073709551616<i)(h2:i<18446744073709551616):ba (.int i) (.int j)= .ok (.int (i*j)):=by
 show ti (.int i) (.int j)=_
 show(if _ then _ else _)=_
 rw [if_pos (.inl ⟨by omega,by omega⟩)]
&iK {i j:Int}(h : -18446744073709551616<j)(h2:j<18446744073709551616):ba (.int i) (.int j)= .ok (.int (i*j)):=by
 show ti (.int i) (.int j)=_
 show(if _ then _ else _)=_
 rw [if_pos (.inr ⟨by omega,by omega⟩)]
&e_cell (ns:List Int)(k:Nat)(hn:ns.length<=63):∃ c,fo [.scr ns,.int k] = .ok (.int c):=by
 have e0:o2 il (vr 0) (b7 ah) [.va (.scr ns),.va (.int k)] = .ok (.bl (jJ ns [])):=by
  &au (t:=.scr ns) (u:=.lst []) rfl (d9 (ts:=[]) rfl (aw (k:=0) (Nat.le_refl _))) ?_
  #,il
  rw [if_pos (fq (by simp [T.dep]) rfl rfl)]
  rfl
 cases ns with
 | nil=>
  &⟨7*k,a8 rfl ?_⟩
  #,fz
  &cz ((bY (aY e0)).trans (bA (au (t:=.int 7) (u:=.int k) rfl rfl (ko (by omega) (by omega)))))
 | cons a r=>
  have hl:(0:Int)<((a::r).length:Nat):=by simp only [List.length_cons];omega
  have hl2:(((a::r).length:Nat):Int)<1073741824:=by simp only [List.length_cons]at hn ⊢;omega
  have hi:k % (a::r).length<(a::r).length:=Nat.mod_lt _ (by simp)
  have g0:o2 fh (vr 1) (cl bL (ac (vr 0) ah)) [.va (.scr (a::r)),.va (.int k)] = .ok (.int ((k % (a::r).length:Nat):Int)):=by
   &au (t:=.int k) (u:=.int ((a::r).length:Nat)) rfl ?_ (by rw [f9 hl];rfl)
   &aM (ts:=[.scr (a::r)]) rfl ?_
   show Rs.ok (T.int (((a::r).map T.int).length:Nat))=_
   rw [List.length_map]
  have g1:aN (.scr (a::r)) (.int ((k % (a::r).length:Nat):Int))= .ok (.int (a::r)[k % (a::r).length]):=by
   have e:((a::r).map T.int)[k % (a::r).length]? =some (.int (a::r)[k % (a::r).length]):=by rw [List.getElem?_map,List.getElem?_eq_getElem hi];rfl
   show(match L2.atI ((a::r).map T.int) ((k % (a::r).length:Nat):Int)with | some t=>Rs.ok t | none=> .bad)=_
   rw [i6 e]
  have g2:o2 iV (vr 1) (cl bL (ac (vr 0) ah)) [.va (.scr (a::r)),.va (.int k)] = .ok (.int ((k:Int) / ((a::r).length:Nat))):=by
   &au (t:=.int k) (u:=.int ((a::r).length:Nat)) rfl ?_ (jv hl hl2)
   &aM (ts:=[.scr (a::r)]) rfl ?_
   show Rs.ok (T.int (((a::r).map T.int).length:Nat))=_
   rw [List.length_map]
  &⟨(a::r)[k % (a::r).length] +6553*((k:Int) / ((a::r).length:Nat)),a8 rfl ?_⟩
  #,fz
  show ax _ _ [.va (.scr (a::r)),.va (.int k)] =_
  &(az (ρ':=[.va (.scr (a::r)),.va (.int k)]) ((cF (aY e0)).trans rfl)).trans ?_
  #bA (au (au (t:=.scr (a::r)) rfl g0 g1) (au (t:=.int 6553) rfl g2 (ko (by omega) (by omega))) rfl)
&bV (ns:List Int)(k:Nat)(m:Int)(hn:ns.length<=63)(hm:0<m):∃ r,ar [.scr ns,.int k,.int m] = .ok (.int r)/\0<=r/\r<m:=by
 &⟨c,hc⟩:=e_cell ns k hn
 have b1:∀ x:Int,0<=x % 2147483563/\x % 2147483563<2147483563:=fun x=>⟨Int.emod_nonneg _ (by omega),Int.emod_lt_of_pos _ (by omega)⟩
 have b2:∀ x:Int,0<=x % 2147483399/\x % 2147483399<2147483399:=fun x=>⟨Int.emod_nonneg _ (by omega),Int.emod_lt_of_pos _ (by omega)⟩
 generalize hx:(c % 2147483563*69069+104723*((k:Int)+1)) % 2147483563=x
 have hx':=b1 (c % 2147483563*69069+104723*((k:Int)+1))
 rw [hx]at hx'
 generalize hy:(x*x+x / 3) % 2147483399=y
 have hy':=b2 (x*x+x / 3)
 rw [hy]at hy'
 &⟨(y*y+y / 7) % 2147483647 / 11 % m,a8 rfl ?_,Int.emod_nonneg _ (by omega),Int.emod_lt_of_pos _ hm⟩
 show eE [.va (.scr ns),.va (.int k),.va (.int m),.em] =_
 #,eE
 have s1:bQ (o2 fh (o2 aH (o2 ba (o2 fh (cl fo (ac (vr 0) (ac (vr 1) ah))) (cn (.int 2147483563))) (cn (.int 69069))) (o2 ba (cn (.int 104723)) (o2 aH (vr 1) (cn (.int 1))))) (cn (.int 2147483563))) (gN 3) [.va (.scr ns),.va (.int k),.va (.int m),.em] = .ok (.nx [.va (.scr ns),.va (.int k),.va (.int m),.va (.int x)]):=by
  &bJ (t:=.int x) (au (u:=.int 2147483563) (au (au (u:=.int 69069) (au (u:=.int 2147483563) (aM (ts:=[.scr ns,.int k]) rfl hc) rfl (f9 (by omega))) rfl (iK (by omega) (by omega))) (au (t:=.int 104723) (u:=.int ((k:Int)+1)) rfl rfl (ko (by omega) (by omega))) rfl) rfl ?_) rfl
  rw [f9 (by omega),hx]
 have s2:bQ (o2 fh (o2 aH (o2 ba (vr 3) (vr 3)) (o2 iV (vr 3) (cn (.int 3)))) (cn (.int 2147483399))) (gN 3) [.va (.scr ns),.va (.int k),.va (.int m),.va (.int x)] = .ok (.nx [.va (.scr ns),.va (.int k),.va (.int m),.va (.int y)]):=by
  &bJ (t:=.int y) (au (u:=.int 2147483399) (au (au (t:=.int x) (u:=.int x) rfl rfl (ko (by omega) (by omega))) (au (t:=.int x) (u:=.int 3) rfl rfl (jv (by omega) (by omega))) rfl) rfl ?_) rfl
  rw [f9 (by omega),hy]
 rw [az s1,az s2]
 #bA (au (u:=.int m) (au (u:=.int 11) (au (u:=.int 2147483647) (au (au (t:=.int y) (u:=.int y) rfl rfl (ko (by omega) (by omega))) (au (t:=.int y) (u:=.int 7) rfl rfl (jv (by omega) (by omega))) rfl) rfl (f9 (by omega))) rfl (jv (by omega) (by omega))) rfl (f9 hm))
&dJ {ns:List Int}{k:Nat}{m r:Int}{f g h:En->Rs T}{ρ:En}(e:ar [.scr ns,.int k,.int m] = .ok (.int r))(h1:f ρ= .ok (.scr ns))(h2:g ρ= .ok (.int k))(h3:h ρ= .ok (.int m)) :
  cl ar (ac f (ac g (ac h ah))) ρ= .ok (.int r):=aM (al h1 (al h2 (al h3 rfl))) e
&rj:∀ (l:List Int) (z y:Int),nR (l++ [z])=true->z<y->nR (l++ [z] ++ [y])=true
 | [],z,y,_,h=>by simp [nR,h]
 | [a],z,y,h,hy=>by
  simp [nR]at h ⊢
  omega
 | a::b::l,z,y,h,hy=>by
  have h':nR (a::b::(l++ [z]))=true:=h
  rw [ris2,Bool.and_eq_true]at h'
  have ih:=rj (b::l) z y h'.2 hy
  show nR (a::b::(l++ [z] ++ [y]))=true
  rw [ris2,h'.1]
  #ih
&mO:∀ l:List Int,km (l.map .int)=some l
 | [] =>rfl
 | a::l=>by rw [List.map_cons,km,mO l]
def RdOk (l:List Int):Prop:=∃ (l':List Int) (z:Int),l=l'++ [z]/\nR l=true/\(∀x∈l,0<=x/\x<=5*l.length)/\z<=5*l.length
abbrev clF:En->Rs Fl:=bQ (o2 aH (vr 3) (aW (ac (o2 aH (o2 aH (o2 aN (vr 3) (o1 kO (cn (.int 1)))) (cn (.int 1))) (cl ar (ac (vr 0) (ac (o2 aH (o2 aH (vr 1) (cn (.int 3))) (vr 4)) (ac (cn (.int 5)) ah))))) ah))) (gN 3)
&ix_last (l:List T)(z:T):aN (.tup (l++ [z])) (.int (-1))= .ok z:=by
 have e:L2.atI (l++ [z]) (-1)=some z:=by
  #,L2.atI L2.ixN
  simp
  rw [if_pos (by omega)]
  have q:(-1+((l.length:Int)+1)).toNat=l.length:=by omega
  show(l++ [z])[(-1+((l.length:Int)+1)).toNat]? =some z
  rw [q]
  simp
 show(match L2.atI (l++ [z]) (-1)with | some t=>Rs.ok t | none=> .bad)=_
 rw [e]
&cl_step (ns:List Int)(hn:ns.length<=63)(a j:Nat)(s:T)(l:List Int)(h:RdOk l)(hl:l.length<=3):∃ l2,clF [.va (.scr ns),.va (.int a),.va s,.va (.tup (l.map .int)),.va (.int j)] = .ok (.nx [.va (.scr ns),.va (.int a),.va s,.va (.tup (l2.map .int)),.va (.int j)])/\RdOk l2/\l2.length=l.length+1:=by
 &⟨l',z,rfl,h1,h2,h3⟩:=h
 &⟨d,ed,d0,d1⟩:=bV ns (a+3+j) 5 hn (by omega)
 &⟨l'++ [z] ++ [z+1+d],?_,⟨l'++ [z],z+1+d,rfl,rj l' z _ h1 (by omega),?_,?_⟩,by simp⟩
 ·&bJ (t:=.tup ((l'++ [z] ++ [z+1+d]).map .int)) (au (t:=.tup ((l'++ [z]).map .int)) (u:=.tup [.int (z+1+d)]) rfl (cm (ts:=[.int (z+1+d)]) (al (au (t:=.int (z+1)) (u:=.int d) (au (t:=.int z) (u:=.int 1) (au (t:=.tup ((l'++ [z]).map .int)) (u:=.int (-1)) rfl rfl ?_) rfl rfl) (dJ (k:=a+3+j) ed rfl ?_ rfl) rfl) rfl) (aw (k:=1) (by simp))) ?_) rfl
  ·rw [List.map_append];#ix_last _ _
  ·&au (t:=.int ((a:Int)+3)) (u:=.int j) (au (t:=.int a) (u:=.int 3) rfl rfl rfl) rfl ?_
   show Rs.ok (T.int ((a:Int)+3+j))=_
   congr 2
  ·rw [List.map_append (l₁:=l'++ [z])]
   #add_tup _ _ (by rw [List.length_append,List.length_map];simp at hl ⊢;omega)
 ·intro x hx
  rcases List.mem_append.mp hx with hx | hx
  ·have:=h2 x hx
   simp only [List.length_append,List.length_singleton]at this ⊢
   omega
  ·rw [List.mem_singleton]at hx
   subst hx
   have hz:=h2 z (by simp)
   simp only [List.length_append,List.length_singleton]at h3 ⊢
   omega
 ·simp only [List.length_append,List.length_singleton]at h3 ⊢
  omega
&uZ (ns:List Int)(hn:ns.length<=63)(a:Nat)(s:T):∀ (js:List Nat) (l:List Int) (s4:Sl),RdOk l->l.length+js.length<=4->∃ l2 s5,aX (gN 4) clF (js.map fun(j:Nat)=>T.int j) [.va (.scr ns),.va (.int a),.va s,.va (.tup (l.map .int)),s4] = .ok (.nx [.va (.scr ns),.va (.int a),.va s,.va (.tup (l2.map .int)),s5])/\RdOk l2/\l2.length=l.length+js.length
 | [],l,s4,h,_=>⟨l,s4,rfl,h,rfl⟩
 | j::js,l,s4,h,hl=>by
  rw [List.length_cons]at hl
  &⟨l2,e2,h2,n2⟩:=cl_step ns hn a j s l h (by omega)
  &⟨l3,s5,e3,h3,n3⟩:=uZ ns hn a s js l2 (.va (.int j)) h2 (by omega)
  &⟨l3,s5,?_,h3,by rw [n3,n2,List.length_cons];omega⟩
  rw [List.map_cons,cX (ρ1:=[.va (.scr ns),.va (.int a),.va s,.va (.tup (l.map .int)),.va (.int j)]) rfl e2]
  #e3
&pH (n:Nat):rng 0 (n:Int)=(List.range n).map fun(j:Nat)=>T.int j:=by
 #,rng
 simp
&RdOk.reads {l:List Int}(h:RdOk l)(hl:l.length<=4):c8 (.tup (l.map .int))=true:=by
 &⟨l',z,rfl,h1,h2,h3⟩:=h
 #,c8
 rw [Bool.and_eq_true]
 &⟨?_,?_⟩
 ·simp [d8];simp at hl;omega
 ·show(((l'++ [z]).map T.int).all (fun u=>aQ u 0 99)&&(match km ((l'++ [z]).map T.int)with | some m=>nR m | none=>false))=true
  rw [mO]
  show(_&&nR (l'++ [z]))=true
  rw [h1,Bool.and_true,List.all_eq_true]
  intro t ht
  &⟨x,hx,rfl⟩:=List.mem_map.mp ht
  have:=h2 x hx
  simp only [aQ,Bool.and_eq_true,decide_eq_true_eq]
  omega
&sm_ints (n:Nat)(l:List Int)(h:l.length<=n):sm n (.tup (l.map .int))=true:=sm_tup.mpr ⟨by rw [List.length_map];#h,fun t ht=>by &⟨x,_,rfl⟩:=List.mem_map.mp ht;simp [sm]⟩
&yJ (ns:List Int)(hn:ns.length<=63)(a:Nat):∃ c,cj [.scr ns,.int a] = .ok c/\bF c=true/\sm 8 c=true:=by
 &⟨d1,e1,p1,q1⟩:=bV ns a 3 hn (by omega)
 &⟨d2,e2,p2,q2⟩:=bV ns (a+2) 6 hn (by omega)
 &⟨d3,e3,p3,q3⟩:=bV ns (a+1) 3 hn (by omega)
 &⟨d4,e4,p4,q4⟩:=bV ns (a+6) 3 hn (by omega)
 &⟨n3,rfl⟩:=Int.eq_ofNat_of_zero_le p3
 &⟨l,s5,el,hl,nl⟩:=uZ ns hn a (.int (1+d1)) (List.range n3) [d2] .em ⟨[],d2,rfl,rfl,fun x hx=>by rw [List.mem_singleton]at hx;subst hx;simp;omega,by simp;omega⟩ (by simp;omega)
 have nl':l.length<=4:=by rw [nl];simp;omega
 have hr:=hl.reads nl'
 &⟨.tup [.int (1+d1),.int (1+d1+d4),.tup (l.map .int)],a8 rfl ?_,?_,?_⟩
 ·show eF [.va (.scr ns),.va (.int a),.em,.em,.em] =_
  #,eF
  rw [az (ρ':=[.va (.scr ns),.va (.int a),.va (.int (1+d1)),.em,.em]) (bJ (t:=.int (1+d1)) (au (t:=.int 1) rfl (dJ e1 rfl rfl rfl) rfl) rfl)]
  rw [az (ρ':=[.va (.scr ns),.va (.int a),.va (.int (1+d1)),.va (.tup ([d2].map .int)),.em]) (bJ (t:=.tup [.int d2]) (cm (ts:=[.int d2]) (al (dJ (k:=a+2) e2 rfl rfl rfl) rfl) (aw (k:=1) (by simp))) rfl)]
  rw [az ((dq (iR1 (al (dJ (k:=a+1) e3 rfl rfl rfl) rfl) (by omega) (by omega)) (by rw [pH];#el)))]
  #bA (cm (al (t:=.int (1+d1)) rfl (al (au (t:=.int (1+d1)) rfl (dJ (k:=a+6) e4 rfl rfl rfl) rfl) (al (t:=.tup (l.map .int)) rfl rfl))) (aw (k:=3) (by simp)))
 ·show(true&&(n5 (.int (1+d1)) (.int (1+d1+d4))&&c8 _))=true
  rw [hr]
  simp only [n5,aQ,Bool.true_and,Bool.and_true,Bool.and_eq_true,decide_eq_true_eq]
  omega
 ·&sm_tup.mpr ⟨by simp,fun t ht=> ?_⟩
  rcases List.mem_cons.mp ht with rfl | ht
  ·simp [sm]
  ·rcases List.mem_cons.mp ht with rfl | ht
   ·simp [sm]
   ·rw [List.mem_singleton]at ht;subst ht;#sm_ints 8 l (by omega)
&lM {y:T}:∀ (cs:List T) (i:Nat),y∈ft i cs->∃ c k:Nat,y= .tup [.int c,.int k]/\i<=c/\c<i+cs.length/\k<rdN (cs.getD (c - i) .non)
 | [],i,h=>by cases h
 | x::cs,i,h=>by
  rw [ft]at h
  rcases List.mem_append.mp h with h | h
  ·unfold lE at h
   &⟨t,ht,rfl⟩:=List.mem_map.mp h
   &⟨j,rfl,hj⟩:=fH ht
   &⟨i,j,rfl,Nat.le_refl _,by rw [List.length_cons];omega,?_⟩
   rw [Nat.sub_self]
   show j<rdN x
   omega
  ·&⟨c,k,e,h1,h2,h3⟩:=lM cs (i+1) h
   &⟨c,k,e,by omega,by rw [List.length_cons];omega,?_⟩
   have:c - i=(c - (i+1))+1:=by omega
   rw [this];#h3
&ev_is {cs:List T}{y:T}(h:y∈ft 0 cs):bo cs y=true:=by
 &⟨c,k,rfl,_,h2,h3⟩:=lM cs 0 h
 show(decide ((0:Int)<=(c:Int))&&decide ((c:Int)<(cs.length:Int))&&(decide ((0:Int)<=(k:Int))&&decide ((k:Int)<(reads cs (c:Int):Int))))=true
 rw [Nat.sub_zero]at h3
 rw [oE]
 simp only [Bool.and_eq_true,decide_eq_true_eq]
 omega
&kM:∀ (cs:List T) (i:Nat),(ft i cs).Nodup
 | [],i=>List.nodup_nil
 | x::cs,i=>by
  rw [ft,List.nodup_append]
  &⟨?_,kM cs (i+1),?_⟩
  ·#,lE rng
   rw [List.map_map]
   rw [List.nodup_iff_pairwise_ne,List.pairwise_map]
   &List.nodup_range.imp ?_
   intro a b hab e
   simp at e
   #hab (by omega)
  ·intro a ha b hb e
   subst e
   unfold lE at ha
   &⟨t,ht,rfl⟩:=List.mem_map.mp ha
   &⟨c,k,e,h1,_,_⟩:=lM cs (i+1) hb
   simp at e
   omega
&xN {l:List T}(h:l.Nodup){i j:Nat}(hi:i<l.length)(hj:j<l.length)(hij:i≠j):l[i] ≠l[j]:=by
 rw [List.nodup_iff_pairwise_ne,List.pairwise_iff_getElem]at h
 rcases Nat.lt_or_ge i j with q | q
 ·#h i j hi hj q
 ·#fun e=>h j i hj hi (by omega) e.symm
&qr:∀ (cs:List T) (i:Nat),(∀c∈cs,bF c=true)->(ft i cs).length<=4*cs.length
 | [],i,_=>Nat.le_refl _
 | x::cs,i,h=>by
  &⟨a,b,r,rfl,_,h2⟩:=gx (h x List.mem_cons_self)
  have:=qr cs (i+1) fun c hc=>h c (List.mem_cons_of_mem _ hc)
  rw [ft,List.length_append,iW,List.length_cons]
  show r.length+_<=_
  omega
&yC {cs:List T}{a b:T}(ha:bo cs a=true)(hb:bo cs b=true)(h:a≠b):aZ a b=false:=by
 &⟨c,k,rfl⟩:=fw ha
 &⟨c',k',rfl⟩:=fw hb
 rw [Bool.eq_false_iff]
 intro e
 simp [aZ,beqTs]at e
 #h (by rw [e.1,e.2])
&qU {cs:List T}{a:T}(ha:bo cs a=true):sm 8 a=true:=by
 &⟨c,k,rfl⟩:=fw ha
 simp [sm,sms]
&tG {l:List T}{i:Nat}(h:i<l.length):aN (.lst l) (.int (i:Int))= .ok l[i]:=by
 show(match L2.atI l (i:Int)with | some t=>Rs.ok t | none=> .bad)=_
 rw [i6 (List.getElem?_eq_getElem h)]
&nv (a b:Int):il (.int a) (.int b)= .ok (.bl (a == b)):=by
 #,il
 rw [if_pos (fq (by simp [T.dep]) rfl rfl)]
 rfl
&vZ (ns:List Int)(hn:ns.length<=63)(a:Nat)(cs:List T)(hc:bc (.tup cs)=true):∃ r,cT [.scr ns,.int a,.tup cs] = .ok r/\(r= .non\/(bK cs r=true/\sm 8 r=true)):=by
 &⟨ha,h1,h4⟩:=dk hc
 have hlen:=qr cs 0 ha
 have er:=sd cs hc
 have gl:∀ s4 s5 s6 s7:Sl,cl bL (ac (vr 3) ah) [.va (.scr ns),.va (.int a),.va (.tup cs),.va (.lst (ft 0 cs)),s4,s5,s6,s7] = .ok (.int ((ft 0 cs).length:Nat)):=fun _ _ _ _=>rfl
 have s1:bQ (cl cy (ac (vr 2) ah)) (gN 3) [.va (.scr ns),.va (.int a),.va (.tup cs),.em,.em,.em,.em,.em] = .ok (.nx [.va (.scr ns),.va (.int a),.va (.tup cs),.va (.lst (ft 0 cs)),.em,.em,.em,.em]):=bJ (aM (ts:=[.tup cs]) rfl er) rfl
 have lt:o2 mS (cl bL (ac (vr 3) ah)) (cn (.int 2)) [.va (.scr ns),.va (.int a),.va (.tup cs),.va (.lst (ft 0 cs)),.em,.em,.em,.em] = .ok (.bl (decide (((ft 0 cs).length:Int)<2))):=au (t:=.int ((ft 0 cs).length:Nat)) (u:=.int 2) (gl _ _ _ _) rfl rfl
 by_cases hs:(ft 0 cs).length<2
 ·&⟨.non,a8 rfl ?_,.inl rfl⟩
  show cE [.va (.scr ns),.va (.int a),.va (.tup cs),.em,.em,.em,.em,.em] =_
  #,cE
  rw [az s1]
  rw [decide_eq_true (by omega)]at lt
  #cz ((bY (aY lt)).trans rfl)
 ·rw [decide_eq_false (by omega)]at lt
  generalize hN:(ft 0 cs).length=n at*
  &⟨d1,e1,p1,q1⟩:=bV ns a (n:Int) hn (by omega)
  &⟨d2,e2,p2,q2⟩:=bV ns (a+1) ((n:Int) - 1) hn (by omega)
  &⟨d3,e3,p3,q3⟩:=bV ns (a+2) 8 hn (by omega)
  &⟨d4,e4,p4,q4⟩:=bV ns (a+3) 3 hn (by omega)
  &⟨d5,e5,p5,q5⟩:=bV ns (a+4) 9 hn (by omega)
  &⟨i,rfl⟩:=Int.eq_ofNat_of_zero_le p1
  &⟨d2,rfl⟩:=Int.eq_ofNat_of_zero_le p2
  have hi:i<(ft 0 cs).length:=by omega
  have hj:(i+1+d2) % n<(ft 0 cs).length:=by rw [hN];#Nat.mod_lt _ (by omega)
  have hij:i≠(i+1+d2) % n:=by
   rcases Nat.lt_or_ge (i+1+d2) n with q | q
   ·rw [Nat.mod_eq_of_lt q];omega
   ·have:(i+1+d2) % n=i+1+d2 - n:=by
     rw [Nat.mod_eq_sub_mod q,Nat.mod_eq_of_lt (by omega)]
    rw [this];omega
  have eA:=ev_is (List.getElem_mem hi)
  have eB:=ev_is (List.getElem_mem hj)
  have eN:(ft 0 cs)[i] ≠(ft 0 cs)[(i+1+d2) % n]:=xN (kM cs 0) hi hj hij
  generalize hA:(ft 0 cs)[i] =A at*
  generalize hB:(ft 0 cs)[(i+1+d2) % n] =B at*
  let y:T:=if d4 == 0 then .non else .int (d3+d5)
  &⟨.tup [A,B,.int d3,y],a8 rfl ?_,.inr ⟨?_,?_⟩⟩
  ·show cE [.va (.scr ns),.va (.int a),.va (.tup cs),.em,.em,.em,.em,.em] =_
   #,cE
   rw [az s1]
   rw [az (ρ':=[.va (.scr ns),.va (.int a),.va (.tup cs),.va (.lst (ft 0 cs)),.em,.em,.em,.em]) ((cF (aY lt)).trans rfl)]
   rw [az (ρ':=[.va (.scr ns),.va (.int a),.va (.tup cs),.va (.lst (ft 0 cs)),.va (.int (i:Nat)),.em,.em,.em]) (bJ (dJ e1 rfl rfl (gl _ _ _ _)) rfl)]
   rw [az (ρ':=[.va (.scr ns),.va (.int a),.va (.tup cs),.va (.lst (ft 0 cs)),.va (.int (i:Nat)),.va (.int ((i+1+d2) % n:Nat)),.em,.em]) (bJ (t:=.int ((i+1+d2) % n:Nat)) (au (t:=.int ((i:Int)+1+d2)) (u:=.int n) (au (t:=.int ((i:Int)+1)) (u:=.int d2) rfl (dJ (k:=a+1) e2 rfl rfl (au (t:=.int n) (u:=.int 1) (gl _ _ _ _) rfl rfl)) rfl) (gl _ _ _ _) (f9 (by omega))) rfl)]
   rw [az (ρ':=[.va (.scr ns),.va (.int a),.va (.tup cs),.va (.lst (ft 0 cs)),.va (.int (i:Nat)),.va (.int ((i+1+d2) % n:Nat)),.va (.int d3),.em]) (bJ (dJ (k:=a+2) e3 rfl rfl rfl) rfl)]
   have ey:ifE (tb (o2 il (cl ar (ac (vr 0) (ac (o2 aH (vr 1) (cn (.int 3))) (ac (cn (.int 3)) ah)))) (cn (.int 0)))) (cn .non) (o2 aH (vr 6) (cl ar (ac (vr 0) (ac (o2 aH (vr 1) (cn (.int 4))) (ac (cn (.int 9)) ah))))) [.va (.scr ns),.va (.int a),.va (.tup cs),.va (.lst (ft 0 cs)),.va (.int (i:Nat)),.va (.int ((i+1+d2) % n:Nat)),.va (.int d3),.em] = .ok y:=by
    rw [yf (aY (au (u:=.int 0) (dJ (k:=a+3) e4 rfl rfl rfl) rfl (nv _ _)))]
    show _=Rs.ok (if d4 == 0 then T.non else .int (d3+d5))
    cases d4 == 0 with
    | true=>rfl
    | false=>#au (t:=.int d3) rfl (dJ (k:=a+4) e5 rfl rfl rfl) rfl
   rw [az (ρ':=[.va (.scr ns),.va (.int a),.va (.tup cs),.va (.lst (ft 0 cs)),.va (.int (i:Nat)),.va (.int ((i+1+d2) % n:Nat)),.va (.int d3),.va y]) (bJ ey rfl)]
   &bA (cm (al (t:=A) (au (t:=.lst (ft 0 cs)) (u:=.int (i:Nat)) rfl rfl ?_) (al (t:=B) (au (t:=.lst (ft 0 cs)) (u:=.int ((i+1+d2) % n:Nat)) rfl rfl ?_) (al (t:=.int d3) rfl (al (t:=y) rfl rfl)))) (aw (k:=4) (by simp)))
   ·rw [<-hA];#tG hi
   ·rw [<-hB];#tG hj
  ·show(e9 (.int d3) y&&(bo cs A&&(bo cs B&& !aZ A B)))=true
   rw [eA,eB,yC eA eB eN]
   have:e9 (.int d3) y=true:=by
    show(aQ (.int d3) 0 999&&(match(T.int d3),(if d4 == 0 then T.non else .int (d3+d5))with | _,.non=>true | .int i,_=>aQ (if d4 == 0 then T.non else .int (d3+d5)) i 999 | _,_=>false))=true
    cases d4 == 0 with
    | true=>simp [aQ];omega
    | false=>simp [aQ];omega
   rw [this];rfl
  ·&sm_tup.mpr ⟨by simp,fun t ht=> ?_⟩
   have hy:sm 8 y=true:=by show sm 8 (if d4 == 0 then T.non else .int (d3+d5))=true;cases d4 == 0 <;> simp [sm]
   simp only [List.mem_cons,List.not_mem_nil,or_false]at ht
   rcases ht with rfl | rfl | rfl | rfl
   ·#qU eA
   ·#qU eB
   ·simp [sm]
   ·#hy
def okv:Rs T->T
 | .ok t=>t
 | _=> .non
&lL (l:List T)(k:Int)(h : -(2 ^ 63)<=k/\k<2 ^ 63/\l.length*k.toNat<=sizeLine):ba (.lst l) (.int k)= .ok (.lst (List.replicate k.toNat l).flatten):=by
 show ti (.lst l) (.int k)=_
 #,ti
 #if_pos h
&mul_one (x:T)(b:Bool):ba (.lst [x]) (.int (if b then 1 else 0))= .ok (.lst (if b then [x]else [])):=by
 cases b with
 | true=>#lL [x] 1 ⟨by decide,by decide,aw (k:=1) (by simp)⟩
 | false=>#lL [x] 0 ⟨by decide,by decide,aw (k:=1) (by simp)⟩
abbrev leF:En->Rs Fl:=ax (bQ (cl cT (ac (vr 0) (ac (o2 aH (o2 aH (vr 1) (cn (.int 31))) (o2 ba (cn (.int 6)) (vr 5))) (ac (vr 3) ah)))) (gN 6)) (bQ (o2 aH (vr 4) (o2 ba (b7 (ac (vr 6) ah)) (cl yn (ac (o2 eK (vr 6) (cn .non)) ah)))) (gN 4))
def wg (cs ls:List T):Prop:=∀ t∈ls,bK cs t=true/\sm 8 t=true
&le_step (ns:List Int)(hn:ns.length<=63)(a j:Nat)(m:T)(cs ls:List T)(hc:bc (.tup cs)=true)(h:wg cs ls)(hl:ls.length<=100)(s6:Sl) :
  ∃ls2 s7,leF [.va (.scr ns),.va (.int a),.va m,.va (.tup cs),.va (.lst ls),.va (.int j),s6] = .ok (.nx [.va (.scr ns),.va (.int a),.va m,.va (.tup cs),.va (.lst ls2),.va (.int j),s7])/\wg cs ls2/\ls2.length<=ls.length+1:=by
 &⟨r,er,hr⟩:=vZ ns hn (a+31+6*j) cs hc
 have e1:∀ G,ax (bQ (cl cT (ac (vr 0) (ac (o2 aH (o2 aH (vr 1) (cn (.int 31))) (o2 ba (cn (.int 6)) (vr 5))) (ac (vr 3) ah)))) (gN 6)) G [.va (.scr ns),.va (.int a),.va m,.va (.tup cs),.va (.lst ls),.va (.int j),s6] =G [.va (.scr ns),.va (.int a),.va m,.va (.tup cs),.va (.lst ls),.va (.int j),.va r]:=fun G=>by
  &az (bJ (t:=r) (aM (ts:=[.scr ns,.int (a+31+6*j:Nat),.tup cs]) (al (t:=.scr ns) rfl (al (t:=.int (a+31+6*j:Nat)) (au (t:=.int ((a:Int)+31)) (u:=.int (6*(j:Int))) rfl (au (t:=.int 6) (u:=.int j) rfl rfl (ko (by omega) (by omega))) rfl) (al (t:=.tup cs) rfl rfl))) er) rfl)
 have e2:cl yn (ac (o2 eK (vr 6) (cn .non)) ah) [.va (.scr ns),.va (.int a),.va m,.va (.tup cs),.va (.lst ls),.va (.int j),.va r] = .ok (.int (if !r.isN then 1 else 0)):=aM (ts:=[.bl (!r.isN)]) rfl rfl
 &⟨ls++(if !r.isN then [r]else []),.va r,?_,?_,?_⟩
 ·&(e1 _).trans (bJ (au (t:=.lst ls) (u:=.lst (if !r.isN then [r]else [])) rfl (au (t:=.lst [r]) (d9 (ts:=[r]) rfl (aw (k:=1) (by simp))) e2 (mul_one _ _)) (fL _ _ ?_)) rfl)
  rw [List.length_append]
  cases r.isN <;> simp <;> omega
 ·intro t ht
  rcases List.mem_append.mp ht with ht | ht
  ·#h t ht
  ·rcases hr with rfl | hr
   ·cases ht
   ·cases q:r.isN with
    | true=>rw [q]at ht;cases ht
    | false=>
     rw [q]at ht
     rw [show t=r by simpa using ht]
     #hr
 ·rw [List.length_append]
  cases r.isN <;> simp
&uE (ns:List Int)(hn:ns.length<=63)(a:Nat)(m:T)(cs:List T)(hc:bc (.tup cs)=true):∀ (js:List Nat) (ls:List T) (s5 s6:Sl),wg cs ls->ls.length+js.length<=100 →
  ∃ls2 t5 t6,aX (gN 5) leF (js.map fun(j:Nat)=>T.int j) [.va (.scr ns),.va (.int a),.va m,.va (.tup cs),.va (.lst ls),s5,s6] = .ok (.nx [.va (.scr ns),.va (.int a),.va m,.va (.tup cs),.va (.lst ls2),t5,t6])/\wg cs ls2/\ls2.length<=ls.length+js.length
 | [],ls,s5,s6,h,_=>⟨ls,s5,s6,rfl,h,Nat.le_refl _⟩
 | j::js,ls,s5,s6,h,hl=>by
  rw [List.length_cons]at hl
  &⟨l2,s7,e2,h2,n2⟩:=le_step ns hn a j m cs ls hc h (by omega) s6
  &⟨l3,t5,t6,e3,h3,n3⟩:=uE ns hn a m cs hc js l2 (.va (.int j)) s7 h2 (by omega)
  &⟨l3,t5,t6,?_,h3,by rw [List.length_cons];omega⟩
  rw [List.map_cons,cX (ρ1:=[.va (.scr ns),.va (.int a),.va m,.va (.tup cs),.va (.lst ls),.va (.int j),s6]) rfl e2]
  #e3
&e_drec (ns:List Int)(hn:ns.length<=63)(a m:Nat)(hm:m<=8):∃ cs ls,eY [.scr ns,.int a,.int m] = .ok (.tup [.tup cs,.tup ls])/\bc (.tup cs)=true/\cs.length<=3/\(∀c∈cs,sm 8 c=true)/\wg cs ls/\ls.length<=m:=by
 &⟨d1,e1,p1,q1⟩:=bV ns a 3 hn (by omega)
 &⟨d2,e2,p2,q2⟩:=bV ns (a+30) ((m:Int)+1) hn (by omega)
 &⟨d1,rfl⟩:=Int.eq_ofNat_of_zero_le p1
 &⟨d2,rfl⟩:=Int.eq_ofNat_of_zero_le p2
 let hcl:T->T:=fun t=>match t with
  | .int k=>okv (cj [.scr ns,.int ((a:Int)+1+8*k)])
  | _=> .non
 have hh:∀ t∈rng 0 ((1+d1:Nat):Int),∃k:Nat,t= .int k/\cj [.scr ns,.int ((a+1+8*k:Nat):Int)] = .ok (hcl t)/\bF (hcl t)=true/\sm 8 (hcl t)=true:=fun t ht=>by
  &⟨k,rfl,_⟩:=fH ht
  &⟨c,ec,h1,h2⟩:=yJ ns hn (a+1+8*k)
  have e:hcl (.int k)=c:=by
   show okv (cj [.scr ns,.int ((a+1+8*k:Nat):Int)])=c
   rw [ec];rfl
  #⟨k,rfl,by rw [e];#ec,by rw [e];#h1,by rw [e];#h2⟩
 generalize hcs:(rng 0 ((1+d1:Nat):Int)).map hcl=cs
 have lc:cs.length=1+d1:=by rw [<-hcs,List.length_map,fI]
 have hc:bc (.tup cs)=true:=by
  show(d8 (.tup cs) 1 4&&cs.all bF)=true
  rw [Bool.and_eq_true,List.all_eq_true]
  &⟨by simp [d8];omega,fun c h=> ?_⟩
  rw [<-hcs]at h
  &⟨t,ht,rfl⟩:=List.mem_map.mp h
  &⟨_,_,_,h1,_⟩:=hh t ht
  #h1
 have hsm:∀ c∈cs,sm 8 c=true:=fun c h=>by
  rw [<-hcs]at h
  &⟨t,ht,rfl⟩:=List.mem_map.mp h
  &⟨_,_,_,_,h1⟩:=hh t ht
  #h1
 &⟨ls,t5,t6,el,hl,nl⟩:=uE ns hn a (.int m) cs hc (List.range d2) [] .em .em (fun t h=>by cases h) (by simp;omega)
 &⟨cs,ls,a8 rfl ?_,hc,by omega,hsm,hl,by simp at nl;omega⟩
 show dH [.va (.scr ns),.va (.int a),.va (.int m),.em,.em,.em,.em] =_
 #,dH
 have s1:bQ (cl jL (ac (dv (iR (ac (o2 aH (cn (.int 1)) (cl ar (ac (vr 0) (ac (vr 1) (ac (cn (.int 3)) ah))))) ah)) [none,some 0,some 1] (gN 0) bT (cl cj (ac (vr 1) (ac (o2 aH (o2 aH (vr 2) (cn (.int 1))) (o2 ba (cn (.int 8)) (vr 0))) ah)))) ah)) (gN 3) [.va (.scr ns),.va (.int a),.va (.int m),.em,.em,.em,.em] = .ok (.nx [.va (.scr ns),.va (.int a),.va (.int m),.va (.tup cs),.em,.em,.em]):=by
  &bJ (t:=.tup cs) (aM (ts:=[.lst cs]) (al (t:=.lst cs) ?_ rfl) rfl) rfl
  rw [<-hcs]
  &ng (ts:=rng 0 ((1+d1:Nat):Int)) (h:=hcl) (iR1 (al (t:=.int ((1+d1:Nat):Int)) (au (t:=.int 1) (u:=.int d1) rfl (dJ e1 rfl rfl rfl) rfl) rfl) (by omega) (by omega)) (aw (k:=3) (by rw [fI];omega)) (by simp) fun t ht=> ?_
  &⟨k,rfl,ek,_,_⟩:=hh t ht
  &aM (ts:=[.scr ns,.int ((a+1+8*k:Nat):Int)]) (al (t:=.scr ns) rfl (al (au (t:=.int ((a:Int)+1)) (u:=.int (8*(k:Int))) rfl (au (t:=.int 8) (u:=.int k) rfl rfl (ko (by omega) (by omega))) rfl) rfl)) ek
 rw [az s1]
 rw [az (ρ':=[.va (.scr ns),.va (.int a),.va (.int m),.va (.tup cs),.va (.lst []),.em,.em]) (bJ (d9 (ts:=[]) rfl (aw (k:=0) (by simp))) rfl)]
 rw [az ((dq (iR1 (al (dJ (k:=a+30) e2 rfl rfl (au (t:=.int m) (u:=.int 1) rfl rfl rfl)) rfl) (by omega) (by omega)) (by rw [pH];#el)))]
 #bA (cm (al (t:=.tup cs) rfl (al (t:=.tup ls) rfl rfl)) (aw (k:=2) (by simp)))
&kt {cs:List T}{t:T}(h:bK cs t=true):∃ a b x y,t= .tup [a,b,x,y]/\e9 x y=true/\bo cs a=true/\bo cs b=true/\aZ a b=false:=by
 unfold bK at h
 split at h
 ·simp only [Bool.and_eq_true,Bool.not_eq_true']at h
  #⟨_,_,_,_,rfl,h.1,h.2.1,h.2.2.1,h.2.2.2⟩
 ·cases h
&rec_ok {cs ls:List T}(hc:bc (.tup cs)=true)(hs:∀ c∈cs,sm 8 c=true)(hl:wg cs ls)(hn:ls.length<=8):gw (.tup [.tup cs,.tup ls])=true/\sm 8 (.tup [.tup cs,.tup ls])=true:=by
 &⟨?_,?_⟩
 ·show(bc (.tup cs)&&(d8 (.tup ls) 0 8&&ls.all (bK cs)))=true
  rw [hc,Bool.true_and,Bool.and_eq_true,List.all_eq_true]
  #⟨by simp [d8];#hn,fun t ht=>(hl t ht).1⟩
 ·&sm_tup.mpr ⟨by simp,fun t ht=> ?_⟩
  simp only [List.mem_cons,List.not_mem_nil,or_false]at ht
  rcases ht with rfl | rfl
  ·#sm_tup.mpr ⟨by have:=(dk hc).2.2;omega,hs⟩
  ·#sm_tup.mpr ⟨hn,fun t ht=>(hl t ht).2⟩
end G
namespace Tr
open PySem
section
variable {f fa fb:En->Rs T}{fs:En->Rs (List T)}{b c:En->Rs Bool}{F G:En->Rs Fl}{ρ ρ' ρ1 ρ2:En}{t u r:T}{ts l m:List T}
mutual
theorem k4:∀ (t:T),t.pl=true->aZ t t=true
 | .non,_=>rfl
 | .bl a,_=>by simp [aZ]
 | .int a,_=>by simp [aZ]
 | .str a,_=>by simp [aZ]
 | .tup l,h=>by rw [aZ];#beqTs_refl l (by unfold T.pl at h;#h)
 | .lst l,h=>by rw [aZ];#beqTs_refl l (by unfold T.pl at h;#h)
 | .scr _,h=>by simp [T.pl]at h
theorem beqTs_refl:∀ (l:List T),plS l=true->beqTs l l=true
 | [],_=>rfl
 | t::l,h=>by
  unfold plS at h
  rw [Bool.and_eq_true]at h
  rw [beqTs,k4 t h.1,beqTs_refl l h.2];rfl
end
&ut (hp:t.pl=true)(hd:t.dep<=60):lz t t= .ok (.bl false):=by
 #,lz
 rw [if_pos (fq hd (T.pl_nd _ hp) (T.pl_nd _ hp)),k4 t hp];rfl
&eq_same (hp:t.pl=true)(hd:t.dep<=60):il t t= .ok (.bl true):=by
 #,il
 rw [if_pos (fq hd (T.pl_nd _ hp) (T.pl_nd _ hp)),k4 t hp]
&pP:∀ {l:List T},(∀t∈l,t.pl=true)->plS l=true
 | [],_=>rfl
 | t::l,h=>by #,plS;rw [h t List.mem_cons_self,pP fun u hu=>h u (List.mem_cons_of_mem _ hu)];rfl
end
end Tr
namespace G
open PySem Tr
def dr (r:List Int)(k:Nat):Int:=r.getD (k+1) 0 - r.getD k 0
def pr (n:Nat)(x y:Int)(r:List Int)(k:Nat):List T:=
 [.tup [.tup [.int n,.int k],.tup [.int n,.int ((k+1:Nat):Int)],.int (dr r k*y)],.tup [.tup [.int n,.int ((k+1:Nat):Int)],.tup [.int n,.int k],.int (-dr r k*x)]]
def cB (n:Nat)(x y:Int)(r:List Int):List T:=(List.range (r.length - 1)).flatMap (pr n x y r)
abbrev yS (n:Nat)(x y:Int)(r:List Int)(acc:List T)(s4 s5 s6 s7:Sl):En:=[.va (.int n),.va (.tup [.int x,.int y,.tup (r.map .int)]),.va (.tup (r.map .int)),.ow (.lst acc),s4,s5,s6,s7]
abbrev bcF:En->Rs Fl:=(ax (bQ (aW (ac (vr 0) (ac (vr 4) ah))) (gN 5)) (ax (bQ (aW (ac (vr 0) (ac (o2 aH (vr 4) (cn (.int 1))) ah))) (gN 6)) (ax (bQ (o2 cQ (o2 aN (vr 2) (o2 aH (vr 4) (cn (.int 1)))) (o2 aN (vr 2) (vr 4))) (gN 7)) (ax (ip 3 (aW (ac (vr 5) (ac (vr 6) (ac (o2 ba (vr 7) (o2 aN (vr 1) (cn (.int 1)))) ah))))) (ip 3 (aW (ac (vr 6) (ac (vr 5) (ac (o2 ba (o1 kO (vr 7)) (o2 aN (vr 1) (cn (.int 0)))) ah)))))))))
&lP {r:List Int}{k:Nat}(h:k<r.length):(r.map T.int)[k]? =some (.int (r.getD k 0)):=by
 rw [List.getElem?_map,List.getElem?_eq_getElem h]
 simp [h]
&bc_step (n:Nat)(x y:Int)(r:List Int)(acc:List T)(k:Nat)(s5 s6 s7:Sl)(hk:k+1<r.length)(hx:0<=x/\x<=9)(hy:0<=y/\y<=9)(ha:acc.length<=100) :
  bcF (yS n x y r acc (.va (.int k)) s5 s6 s7)= .ok (.nx (yS n x y r (acc++pr n x y r k) (.va (.int k)) (.va (.tup [.int n,.int k])) (.va (.tup [.int n,.int ((k+1:Nat):Int)])) (.va (.int (dr r k))))):=by
 have h2:([T.int n,T.int k]:List T).length<=sizeLine:=aw (k:=2) (by simp)
 have ek:((k:Int)+1)=((k+1:Nat):Int):=by omega
 &(az (ρ':=yS n x y r acc (.va (.int k)) (.va (.tup [.int n,.int k])) s6 s7) (bJ (cm rfl (aw (k:=2) (by simp))) rfl)).trans ?_
 &(az (ρ':=yS n x y r acc (.va (.int k)) (.va (.tup [.int n,.int k])) (.va (.tup [.int n,.int ((k+1:Nat):Int)])) s7) (bJ (cm (al rfl (al (t:=.int ((k+1:Nat):Int)) (au (t:=.int k) (u:=.int 1) rfl rfl (congrArg (fun z=>Rs.ok (T.int z)) ek)) rfl)) (aw (k:=2) (by simp))) rfl)).trans ?_
 &(az (ρ':=yS n x y r acc (.va (.int k)) (.va (.tup [.int n,.int k])) (.va (.tup [.int n,.int ((k+1:Nat):Int)])) (.va (.int (dr r k)))) (bJ (t:=.int (dr r k)) (au (t:=.int (r.getD (k+1) 0)) (u:=.int (r.getD k 0)) (k_ix (n:=k+1) rfl (au (t:=.int k) (u:=.int 1) rfl rfl (congrArg (fun z=>Rs.ok (T.int z)) ek)) (lP hk)) (k_ix (n:=k) rfl rfl (lP (by omega))) rfl) rfl)).trans ?_
 &(az (ρ':=yS n x y r (acc++ [.tup [.tup [.int n,.int k],.tup [.int n,.int ((k+1:Nat):Int)],.int (dr r k*y)]]) (.va (.int k)) (.va (.tup [.int n,.int k])) (.va (.tup [.int n,.int ((k+1:Nat):Int)])) (.va (.int (dr r k)))) (nh (l:=acc) (cm (al rfl (al rfl (al (au (t:=.int (dr r k)) (u:=.int y) rfl rfl (iK (by omega) (by omega))) rfl))) (aw (k:=3) (by simp))) rfl (by omega))).trans ?_
 &(nh (l:=acc++ [.tup [.tup [.int n,.int k],.tup [.int n,.int ((k+1:Nat):Int)],.int (dr r k*y)]]) (cm (al rfl (al rfl (al (au (t:=.int (-dr r k)) (u:=.int x) rfl rfl (iK (by omega) (by omega))) rfl))) (aw (k:=3) (by simp))) rfl (by rw [List.length_append];simp;omega)).trans ?_
 rw [List.append_assoc]
 rfl
&u8 (n:Nat)(x y:Int)(r:List Int)(hx:0<=x/\x<=9)(hy:0<=y/\y<=9):∀ (js:List Nat) (acc:List T) (s4 s5 s6 s7:Sl),(∀k∈js,k+1<r.length)->acc.length+2*js.length<=100 →
  ∃t4 t5 t6 t7,aX (gN 4) bcF (js.map fun(k:Nat)=>T.int k) (yS n x y r acc s4 s5 s6 s7)= .ok (.nx (yS n x y r (acc++js.flatMap (pr n x y r)) t4 t5 t6 t7))
 | [],acc,s4,s5,s6,s7,_,_=>⟨s4,s5,s6,s7,by simp [aX]⟩
 | k::js,acc,s4,s5,s6,s7,hk,hl=>by
  rw [List.length_cons]at hl
  have e:=bc_step n x y r acc k s5 s6 s7 (hk k List.mem_cons_self) hx hy (by omega)
  &⟨t4,t5,t6,t7,ih⟩:=u8 n x y r hx hy js (acc++pr n x y r k) (.va (.int k)) (.va (.tup [.int n,.int k])) (.va (.tup [.int n,.int ((k+1:Nat):Int)])) (.va (.int (dr r k))) (fun j hj=>hk j (List.mem_cons_of_mem _ hj)) (by rw [List.length_append];simp [pr];omega)
  &⟨t4,t5,t6,t7,?_⟩
  rw [List.map_cons,cX (ρ1:=yS n x y r acc (.va (.int k)) s5 s6 s7) rfl e,ih,List.flatMap_cons,List.append_assoc]
&yN (n:Nat)(x y:Int)(r:List Int)(hx:0<=x/\x<=9)(hy:0<=y/\y<=9)(h1:1<=r.length)(h4:r.length<=4):cf [.int n,.tup [.int x,.int y,.tup (r.map .int)]] = .ok (.lst (cB n x y r)):=by
 &a8 rfl ?_
 show cr [.va (.int n),.va (.tup [.int x,.int y,.tup (r.map .int)]),.em,.em,.em,.em,.em,.em] =_
 #,cr
 rw [az (ρ':=[.va (.int n),.va (.tup [.int x,.int y,.tup (r.map .int)]),.va (.tup (r.map .int)),.em,.em,.em,.em,.em]) (bJ (t:=.tup (r.map .int)) rfl rfl)]
 rw [az (ρ':=yS n x y r [] .em .em .em .em) rfl]
 &⟨t4,t5,t6,t7,e⟩:=u8 n x y r hx hy (List.range (r.length - 1)) [] .em .em .em .em (fun k hk=>by have:=List.mem_range.mp hk;omega) (by simp;omega)
 have e1:iR (ac (o2 cQ (cl bL (ac (vr 2) ah)) (cn (.int 1))) ah) (yS n x y r [] .em .em .em .em)= .ok (rng 0 ((r.length - 1:Nat):Int)):=by
  &iR1 (j:=((r.length - 1:Nat):Int)) (al (au (t:=.int (r.length:Nat)) (u:=.int 1) (aM (ts:=[.tup (r.map .int)]) rfl (by show Rs.ok (T.int ((r.map T.int).length:Nat))=_;rw [List.length_map])) rfl (congrArg (fun z=>Rs.ok (T.int z)) (by omega))) rfl) (by omega) (by omega)
 rw [az ((dq (ts:=(List.range (r.length - 1)).map fun(k:Nat)=>T.int k) (by rw [e1,pH]) e))]
 rfl
&hZ {t:T}(h:bF t=true):∃ (x y:Int) (r:List Int),t= .tup [.int x,.int y,.tup (r.map .int)]/\(0<=x/\x<=9)/\(0<=y/\y<=9)/\1<=r.length/\r.length<=4:=by
 &⟨x,y,r,rfl,h1,h4⟩:=gx h
 have h':(n5 x y&&c8 (.tup r))=true:=h
 rw [Bool.and_eq_true]at h'
 &⟨hp,hr⟩:=h'
 unfold n5 at hp
 rw [Bool.and_eq_true]at hp
 &⟨i,rfl,i1,i2⟩:=da hp.1
 &⟨j,rfl,j1,j2⟩:=da (t:=y) (a:=i) (b:=9) hp.2
 unfold c8 at hr
 rw [Bool.and_eq_true]at hr
 have hr2:((r.all fun u=>aQ u 0 99)&&(match km r with | some m=>nR m | none=>false))=true:=hr.2
 rw [Bool.and_eq_true]at hr2
 &⟨m,em⟩:=p9 hr2.1
 have e:=mM em
 subst e
 rw [List.length_map]at h1 h4
 #⟨i,j,m,rfl,⟨by omega,by omega⟩,⟨by omega,by omega⟩,h1,h4⟩
def xB (n:Nat)(t:T):List T:=match t with
 | .tup [.int x,.int y,.tup r] =>match km r with
  | some m=>cB n x y m
  | none=> []
 | _=> []
def bC:Nat->List T->List T
 | _,[] => []
 | i,c::r=>xB i c++bC (i+1) r
def lB (t:T):List T:=match t with
 | .tup [a,b,.int le,mo] => .tup [b,a,.int (-le)] ::(if mo.isN then []else [.tup [a,b,mo]])
 | _=> []
def bds (cs ls:List T):List T:=bC 0 cs++ls.flatMap lB
&oq (n:Nat)(x y:Int)(r:List Int):xB n (.tup [.int x,.int y,.tup (r.map .int)])=cB n x y r:=by
 #,xB
 simp only [mO]
&cB_len (n:Nat)(x y:Int)(r:List Int):(cB n x y r).length=2*(r.length - 1):=by
 #,cB
 rw [List.length_flatMap]
 have:∀ l:List Nat,(l.map fun k=>(pr n x y r k).length).sum=2*l.length:=by
  intro l
  induction l with
  | nil=>rfl
  | cons a l ih=>rw [List.map_cons,List.sum_cons,ih,List.length_cons];simp [pr];omega
 rw [this,List.length_range]
&sH {n:Nat}{t:T}(h:bF t=true):(xB n t).length<=6:=by
 &⟨x,y,r,rfl,_,_,h1,h4⟩:=hZ h
 rw [oq,cB_len];omega
&qA:∀ {cs:List T} {i:Nat},(∀c∈cs,bF c=true)->(bC i cs).length<=6*cs.length
 | [],i,_=>by simp [bC]
 | c::cs,i,h=>by
  rw [bC,List.length_append,List.length_cons]
  have:=sH (n:=i) (h c List.mem_cons_self)
  have:=qA (cs:=cs) (i:=i+1) fun c hc=>h c (List.mem_cons_of_mem _ hc)
  omega
&tu (t:T):(lB t).length<=2:=by
 #,lB
 split
 ·rename_i a b le mo
  cases mo.isN <;> simp
 ·simp
&uJ:∀ (ls:List T),(ls.flatMap lB).length<=2*ls.length
 | [] =>by simp
 | t::ls=>by
  rw [List.flatMap_cons,List.length_append,List.length_cons]
  have:=tu t
  have:=uJ ls
  omega
&lh {cs:List T}{t:T}(h:bK cs t=true):∃ (a b mo:T) (le:Int),t= .tup [a,b,.int le,mo]/\bo cs a=true/\bo cs b=true:=by
 &⟨a,b,x,y,rfl,hd,ha,hb,_⟩:=kt h
 unfold e9 at hd
 rw [Bool.and_eq_true]at hd
 &⟨i,rfl,_⟩:=da hd.1
 #⟨a,b,y,i,rfl,ha,hb⟩
&v3 {cs:List T}{t:T}(h:bK cs t=true):b6 [t] = .ok (.lst (lB t)):=by
 &⟨a,b,mo,le,rfl,_,_⟩:=lh h
 &a8 rfl ?_
 show b8 [.va (.tup [a,b,.int le,mo]),.em] =_
 #,b8
 rw [az (ρ':=[.va (.tup [a,b,.int le,mo]),.ow (.lst [.tup [b,a,.int (-le)]])]) (yd (l:=[.tup [b,a,.int (-le)]]) (al (cm (al rfl (al rfl (al rfl rfl))) (aw (k:=3) (by simp))) rfl) (by simp) (by simp))]
 have e:∀ (ρ:En) l,ρ= [.va (.tup [a,b,.int le,mo]),.ow (.lst l)]->o2 eK (o2 aN (vr 0) (cn (.int 3))) (cn .non) ρ= .ok (.bl (!mo.isN)):=fun ρ l z=>by subst z;rfl
 have e2:lB (.tup [a,b,.int le,mo])= .tup [b,a,.int (-le)] ::(if mo.isN then []else [.tup [a,b,mo]]):=rfl
 rw [e2]
 cases q:mo.isN with
 | true=>
  rw [az (ρ':=[.va (.tup [a,b,.int le,mo]),.ow (.lst [.tup [b,a,.int (-le)]])]) ((cF (aY (by rw [e _ _ rfl,q];rfl))).trans rfl)]
  rfl
 | false=>
  rw [az (ρ':=[.va (.tup [a,b,.int le,mo]),.ow (.lst ([.tup [b,a,.int (-le)]] ++ [.tup [a,b,mo]]))]) ((bY (aY (by rw [e _ _ rfl,q];rfl))).trans (nh (l:=[.tup [b,a,.int (-le)]]) (cm (al rfl (al rfl (al rfl rfl))) (aw (k:=3) (by simp))) rfl (by simp)))]
  rfl
abbrev bdF:En->Rs Fl:=mn 1 (cl cf (ac (vr 2) (ac (vr 3) ah)))
abbrev bdG:T->En->Rs En:=gT 2 (dO (gN 2) (dO (gN 3) lm))
&u7 (R:T)(s4:Sl):∀ (cs:List T) (acc:List T) (i:Nat) (s2 s3:Sl),(∀c∈cs,bF c=true)->acc.length+6*cs.length<=100 →
  ∃y2 y3,aX bdG bdF (cp i cs) [.va R,.ow (.lst acc),s2,s3,s4] = .ok (.nx [.va R,.ow (.lst (acc++bC i cs)),y2,y3,s4])
 | [],acc,i,s2,s3,_,_=>⟨s2,s3,by simp [cp,aX,bC]⟩
 | c::cs,acc,i,s2,s3,hc,hl=>by
  have h0:=hc c List.mem_cons_self
  have hx:=sH (n:=i) h0
  &⟨x,y,r,rfl,a1,a2,a3,a4⟩:=hZ h0
  rw [List.length_cons]at hl
  rw [oq]at hx
  have st:bdF [.va R,.ow (.lst acc),.va (.int i),.va (.tup [.int x,.int y,.tup (r.map .int)]),s4] = .ok (.nx [.va R,.ow (.lst (acc++cB i x y r)),.va (.int i),.va (.tup [.int x,.int y,.tup (r.map .int)]),s4]):=
   yg (l:=acc) (aM (ts:=[.int i,.tup [.int x,.int y,.tup (r.map .int)]]) rfl (yN i x y r a1 a2 a3 a4)) rfl (by omega)
  &⟨z2,z3,ih⟩:=u7 R s4 cs (acc++cB i x y r) (i+1) (.va (.int i)) (.va (.tup [.int x,.int y,.tup (r.map .int)])) (fun c h=>hc c (List.mem_cons_of_mem _ h)) (by rw [List.length_append];omega)
  &⟨z2,z3,?_⟩
  rw [cp,cX (ρ1:=[.va R,.ow (.lst acc),.va (.int i),.va (.tup [.int x,.int y,.tup (r.map .int)]),s4]) rfl st,ih,bC,oq,List.append_assoc]
abbrev blF:En->Rs Fl:=mn 1 (cl b6 (ac (vr 4) ah))
&u6 (R:T)(cs:List T)(s2 s3:Sl):∀ (ls:List T) (acc:List T) (s4:Sl),(∀t∈ls,bK cs t=true)->acc.length+2*ls.length<=100 →
  ∃y4,aX (gN 4) blF ls [.va R,.ow (.lst acc),s2,s3,s4] = .ok (.nx [.va R,.ow (.lst (acc++ls.flatMap lB)),s2,s3,y4])
 | [],acc,s4,_,_=>⟨s4,by simp [aX]⟩
 | t::ls,acc,s4,hl,hn=>by
  rw [List.length_cons]at hn
  have:=tu t
  have st:blF [.va R,.ow (.lst acc),s2,s3,.va t] = .ok (.nx [.va R,.ow (.lst (acc++lB t)),s2,s3,.va t]):=yg (l:=acc) (aM (ts:=[t]) rfl (v3 (hl t List.mem_cons_self))) rfl (by omega)
  &⟨y4,ih⟩:=u6 R cs s2 s3 ls (acc++lB t) (.va t) (fun u h=>hl u (List.mem_cons_of_mem _ h)) (by rw [List.length_append];omega)
  &⟨y4,?_⟩
  rw [cX (ρ1:=[.va R,.ow (.lst acc),s2,s3,.va t]) rfl st,ih,List.flatMap_cons,List.append_assoc]
&rL {R:T}(hp:R.pl=true)(h:gw R=true):cw [R] = .ok .non:=by
 &k_valn (ρ:=[.va R]) rfl ?_
 show cC [.va R] =_
 #,cC
 #(cF ((cR (k:=true) (aY (aM (ts:=[R]) rfl (by rw [r8 R hp,h])))))).trans rfl
&vG {R:T}(hp:R.pl=true)(h:gw R=false):cw [R] = .err "NoRecord":=by
 &m9 rfl ?_
 show cC [.va R] =_
 #,cC
 #(bY ((cR (k:=false) (aY (aM (ts:=[R]) rfl (by rw [r8 R hp,h])))))).trans rfl
structure Good (cs ls:List T):Prop where
 c:bc (.tup cs)=true
 l:∀ t∈ls,bK cs t=true
 n:ls.length<=8
 p:(T.tup [.tup cs,.tup ls]).pl=true
&Good.ok {cs ls:List T}(g:Good cs ls):gw (.tup [.tup cs,.tup ls])=true:=by
 show(bc (.tup cs)&&(d8 (.tup ls) 0 8&&ls.all (bK cs)))=true
 rw [g.c,Bool.true_and,Bool.and_eq_true,List.all_eq_true]
 #⟨by simp [d8];#g.n,g.l⟩
&yL {cs ls:List T}(g:Good cs ls):dD [.tup [.tup cs,.tup ls]] = .ok (.lst (bds cs ls)):=by
 &⟨hc,c1,c4⟩:=dk g.c
 have hn:=g.n
 &a8 rfl ?_
 show gj [.va (.tup [.tup cs,.tup ls]),.em,.em,.em,.em] =_
 #,gj
 rw [az (k_ex (t:=.non) (aM (ts:=[.tup [.tup cs,.tup ls]]) rfl (rL g.p g.ok)))]
 rw [az (ρ':=[.va (.tup [.tup cs,.tup ls]),.ow (.lst []),.em,.em,.em]) (tD (by simp))]
 &⟨y2,y3,e⟩:=u7 (.tup [.tup cs,.tup ls]) .em cs [] 0 .em .em hc (by simp;omega)
 rw [az ((dq (ts:=cp 0 cs) rfl e))]
 have:=qA (i:=0) hc
 &⟨y4,e2⟩:=u6 (.tup [.tup cs,.tup ls]) cs y2 y3 ls ([] ++bC 0 cs) .em g.l (by rw [List.nil_append];omega)
 rw [az ((dq (ts:=ls) rfl e2))]
 rfl
abbrev wo (R:T)(acc:List T)(n:Nat)(x y:Int)(r:List Int)(s6 s7 s8 s9 s10 s11:Sl):En:=[.va R,.ow (.lst acc),.va (.int n),.va (.int x),.va (.int y),.va (.tup (r.map .int)),s6,s7,s8,s9,s10,s11]
abbrev lkF:En->Rs Fl:=(ax (bQ (o2 cQ (o2 aN (vr 5) (vr 6)) (o2 aN (vr 5) (o2 cQ (vr 6) (cn (.int 1))))) (gN 7)) (ax (ip 1 (aW (ac (aW (ac (vr 2) (ac (o2 cQ (vr 6) (cn (.int 1))) ah))) (ac (aW (ac (vr 2) (ac (vr 6) ah))) (ac (o2 ba (vr 4) (vr 7)) ah))))) (ip 1 (aW (ac (aW (ac (vr 2) (ac (vr 6) ah))) (ac (aW (ac (vr 2) (ac (o2 cQ (vr 6) (cn (.int 1))) ah))) (ac (o2 cQ (cn (.int 0)) (o2 ba (vr 3) (vr 7))) ah)))))))
&lk_step (R:T)(n:Nat)(x y:Int)(r:List Int)(acc:List T)(k:Nat)(s7 s8 s9 s10 s11:Sl)(hk:k+1<r.length)(hx:0<=x/\x<=9)(hy:0<=y/\y<=9)(ha:acc.length<=100) :
  lkF (wo R acc n x y r (.va (.int ((k+1:Nat):Int))) s7 s8 s9 s10 s11)= .ok (.nx (wo R (acc++pr n x y r k) n x y r (.va (.int ((k+1:Nat):Int))) (.va (.int (dr r k))) s8 s9 s10 s11)):=by
 have sb:∀ acc s7,o2 cQ (vr 6) (cn (.int 1)) (wo R acc n x y r (.va (.int ((k+1:Nat):Int))) s7 s8 s9 s10 s11)= .ok (.int k):=fun acc s7=>au (t:=.int ((k+1:Nat):Int)) (u:=.int 1) rfl rfl (congrArg (fun z=>Rs.ok (T.int z)) (by omega))
 &(az (ρ':=wo R acc n x y r (.va (.int ((k+1:Nat):Int))) (.va (.int (dr r k))) s8 s9 s10 s11) (bJ (t:=.int (dr r k)) (au (t:=.int (r.getD (k+1) 0)) (u:=.int (r.getD k 0)) (k_ix (n:=k+1) rfl rfl (lP hk)) (k_ix (n:=k) rfl (sb acc s7) (lP (by omega))) rfl) rfl)).trans ?_
 &(az (ρ':=wo R (acc++ [.tup [.tup [.int n,.int k],.tup [.int n,.int ((k+1:Nat):Int)],.int (dr r k*y)]]) n x y r (.va (.int ((k+1:Nat):Int))) (.va (.int (dr r k))) s8 s9 s10 s11) (nh (l:=acc) (cm (al (cm (al rfl (al (sb _ _) rfl)) (aw (k:=2) (by simp))) (al (cm rfl (aw (k:=2) (by simp))) (al (au (t:=.int y) (u:=.int (dr r k)) rfl rfl ((ko (by omega) (by omega)).trans (by rw [Int.mul_comm]))) rfl))) (aw (k:=3) (by simp))) rfl (by omega))).trans ?_
 &(nh (l:=acc++ [.tup [.tup [.int n,.int k],.tup [.int n,.int ((k+1:Nat):Int)],.int (dr r k*y)]]) (t:=.tup [.tup [.int n,.int ((k+1:Nat):Int)],.tup [.int n,.int k],.int (-dr r k*x)]) (cm (al (cm rfl (aw (k:=2) (by simp))) (al (cm (al rfl (al (sb _ _) rfl)) (aw (k:=2) (by simp))) (al (au (t:=.int 0) (u:=.int (x*dr r k)) rfl (au (t:=.int x) (u:=.int (dr r k)) rfl rfl (ko (by omega) (by omega))) (congrArg (fun z=>Rs.ok (T.int z)) (by rw [Int.neg_mul,Int.mul_comm x,Int.zero_sub]))) rfl))) (aw (k:=3) (by simp))) rfl (by rw [List.length_append];simp;omega)).trans ?_
 rw [List.append_assoc]
 rfl
&uA (R:T)(n:Nat)(x y:Int)(r:List Int)(s8 s9 s10 s11:Sl)(hx:0<=x/\x<=9)(hy:0<=y/\y<=9):∀ (js:List Nat) (acc:List T) (s6 s7:Sl),(∀k∈js,k+1<r.length)->acc.length+2*js.length<=100 →
  ∃t6 t7,aX (gN 6) lkF (js.map fun(k:Nat)=>T.int ((k+1:Nat):Int)) (wo R acc n x y r s6 s7 s8 s9 s10 s11)= .ok (.nx (wo R (acc++js.flatMap (pr n x y r)) n x y r t6 t7 s8 s9 s10 s11))
 | [],acc,s6,s7,_,_=>⟨s6,s7,by simp [aX]⟩
 | k::js,acc,s6,s7,hk,hl=>by
  rw [List.length_cons]at hl
  have e:=lk_step R n x y r acc k s7 s8 s9 s10 s11 (hk k List.mem_cons_self) hx hy (by omega)
  &⟨t6,t7,ih⟩:=uA R n x y r s8 s9 s10 s11 hx hy js (acc++pr n x y r k) (.va (.int ((k+1:Nat):Int))) (.va (.int (dr r k))) (fun j hj=>hk j (List.mem_cons_of_mem _ hj)) (by rw [List.length_append];simp [pr];omega)
  &⟨t6,t7,?_⟩
  rw [List.map_cons,cX (ρ1:=wo R acc n x y r (.va (.int ((k+1:Nat):Int))) s7 s8 s9 s10 s11) rfl e,ih,List.flatMap_cons,List.append_assoc]
&ue (n:Nat)(h:1<=n):rng 1 (n:Int)=(List.range (n - 1)).map fun(k:Nat)=>T.int ((k+1:Nat):Int):=by
 #,rng
 have:((n:Int) - 1).toNat=n - 1:=by omega
 rw [this]
 #List.map_congr_left fun k _=>congrArg T.int (by omega)
&iR2 {f:En->Rs (List T)}{ρ:En}{i j:Int}(h:f ρ= .ok [.int i,.int j])(h0:0<=i)(h1:i<=100000)(h2:0<=j)(h3:j<=100000):iR f ρ= .ok (rng i j):=by
 #,iR
 rw [h]
 have e:(tJ i&&tJ j)=true:=by #,tJ;simp;omega
 show(if (tJ i&&tJ j)=true then _ else _)=_
 rw [e];rfl
abbrev lcFo:En->Rs Fl:=(dA (iR (ac (cn (.int 1)) (ac (cl bL (ac (vr 5) ah)) ah))) (gN 6) lkF)
abbrev lcG:T->En->Rs En:=gT 2 (dO (gN 2) (dO (gT 3 (dO (gN 3) (dO (gN 4) (dO (gN 5) lm)))) lm))
&uH (R:T)(s8 s9 s10 s11:Sl):∀ (cs:List T) (acc:List T) (i:Nat) (s2 s3 s4 s5 s6 s7:Sl),(∀c∈cs,bF c=true)->acc.length+6*cs.length<=90 →
  ∃y2 y3 y4 y5 y6 y7,aX lcG lcFo (cp i cs) [.va R,.ow (.lst acc),s2,s3,s4,s5,s6,s7,s8,s9,s10,s11] = .ok (.nx [.va R,.ow (.lst (acc++bC i cs)),y2,y3,y4,y5,y6,y7,s8,s9,s10,s11])
 | [],acc,i,s2,s3,s4,s5,s6,s7,_,_=>⟨s2,s3,s4,s5,s6,s7,by simp [cp,aX,bC]⟩
 | c::cs,acc,i,s2,s3,s4,s5,s6,s7,hc,hl=>by
  have h0:=hc c List.mem_cons_self
  have hx:=sH (n:=i) h0
  &⟨x,y,r,rfl,a1,a2,a3,a4⟩:=hZ h0
  rw [List.length_cons]at hl
  rw [oq]at hx
  &⟨t6,t7,e⟩:=uA R i x y r s8 s9 s10 s11 a1 a2 (List.range (r.length - 1)) acc s6 s7 (fun k hk=>by have:=List.mem_range.mp hk;omega) (by rw [List.length_range];omega)
  have e1:iR (ac (cn (.int 1)) (ac (cl bL (ac (vr 5) ah)) ah)) (wo R acc i x y r s6 s7 s8 s9 s10 s11)= .ok (rng 1 (r.length:Nat)):=
   iR2 (i:=1) (j:=(r.length:Nat)) (al rfl (al (aM (ts:=[.tup (r.map .int)]) rfl (by show Rs.ok (T.int ((r.map T.int).length:Nat))=_;rw [List.length_map])) rfl)) (by omega) (by omega) (by omega) (by omega)
  have st:lcFo (wo R acc i x y r s6 s7 s8 s9 s10 s11)= .ok (.nx (wo R (acc++cB i x y r) i x y r t6 t7 s8 s9 s10 s11)):=(dq (ts:=(List.range (r.length - 1)).map fun(k:Nat)=>T.int ((k+1:Nat):Int)) (by rw [e1,ue _ a3]) e)
  &⟨z2,z3,z4,z5,z6,z7,ih⟩:=uH R s8 s9 s10 s11 cs (acc++cB i x y r) (i+1) (.va (.int i)) (.va (.int x)) (.va (.int y)) (.va (.tup (r.map .int))) t6 t7 (fun c h=>hc c (List.mem_cons_of_mem _ h)) (by rw [List.length_append];omega)
  &⟨z2,z3,z4,z5,z6,z7,?_⟩
  rw [cp,cX (ρ1:=wo R acc i x y r s6 s7 s8 s9 s10 s11) rfl st,ih,bC,oq,List.append_assoc]
abbrev llF:En->Rs Fl:=(ax (ip 1 (aW (ac (vr 9) (ac (vr 8) (ac (o2 cQ (cn (.int 0)) (vr 10)) ah))))) (eI (tb (o2 eK (vr 11) (cn .non))) (ip 1 (aW (ac (vr 8) (ac (vr 9) (ac (vr 11) ah))))) sN))
abbrev llG:T->En->Rs En:=gT 4 (dO (gN 8) (dO (gN 9) (dO (gN 10) (dO (gN 11) lm))))
&uz (R:T)(cs:List T)(s2 s3 s4 s5 s6 s7:Sl):∀ (ls:List T) (acc:List T) (s8 s9 s10 s11:Sl),(∀t∈ls,bK cs t=true)->acc.length+2*ls.length<=100 →
  ∃y8 y9 y10 y11,aX llG llF ls [.va R,.ow (.lst acc),s2,s3,s4,s5,s6,s7,s8,s9,s10,s11] = .ok (.nx [.va R,.ow (.lst (acc++ls.flatMap lB)),s2,s3,s4,s5,s6,s7,y8,y9,y10,y11])
 | [],acc,s8,s9,s10,s11,_,_=>⟨s8,s9,s10,s11,by simp [aX]⟩
 | t::ls,acc,s8,s9,s10,s11,hl,hn=>by
  rw [List.length_cons]at hn
  have hlb:=tu t
  &⟨a,b,mo,le,rfl,_,_⟩:=lh (hl t List.mem_cons_self)
  have e2:lB (.tup [a,b,.int le,mo])= .tup [b,a,.int (-le)] ::(if mo.isN then []else [.tup [a,b,mo]]):=rfl
  have e:∀ l,o2 eK (vr 11) (cn .non) [.va R,.ow (.lst l),s2,s3,s4,s5,s6,s7,.va a,.va b,.va (.int le),.va mo] = .ok (.bl (!mo.isN)):=fun l=>rfl
  have st:llF [.va R,.ow (.lst acc),s2,s3,s4,s5,s6,s7,.va a,.va b,.va (.int le),.va mo] = .ok (.nx [.va R,.ow (.lst (acc++lB (.tup [a,b,.int le,mo]))),s2,s3,s4,s5,s6,s7,.va a,.va b,.va (.int le),.va mo]):=by
   &(az (ρ':=[.va R,.ow (.lst (acc++ [.tup [b,a,.int (-le)]])),s2,s3,s4,s5,s6,s7,.va a,.va b,.va (.int le),.va mo]) (nh (l:=acc) (t:=.tup [b,a,.int (-le)]) (cm (al rfl (al rfl (al (au (t:=.int 0) (u:=.int le) rfl rfl (congrArg (fun z=>Rs.ok (T.int z)) (Int.zero_sub le))) rfl))) (aw (k:=3) (by simp))) rfl (by omega))).trans ?_
   rw [e2]
   cases q:mo.isN with
   | true=>#(cF (aY (by rw [e,q];rfl))).trans rfl
   | false=>
    &(bY (aY (by rw [e,q];rfl))).trans ((nh (l:=acc++ [.tup [b,a,.int (-le)]]) (t:=.tup [a,b,mo]) (cm (al rfl (al rfl (al rfl rfl))) (aw (k:=3) (by simp))) rfl (by rw [List.length_append];simp;omega)).trans ?_)
    rw [List.append_assoc]
    rfl
  &⟨y8,y9,y10,y11,ih⟩:=uz R cs s2 s3 s4 s5 s6 s7 ls (acc++lB (.tup [a,b,.int le,mo])) (.va a) (.va b) (.va (.int le)) (.va mo) (fun u h=>hl u (List.mem_cons_of_mem _ h)) (by rw [List.length_append];omega)
  &⟨y8,y9,y10,y11,?_⟩
  rw [cX (ρ1:=[.va R,.ow (.lst acc),s2,s3,s4,s5,s6,s7,.va a,.va b,.va (.int le),.va mo]) rfl st,ih,List.flatMap_cons,List.append_assoc]
&vY {cs ls:List T}(hcs:bc (.tup cs)=true)(hls:∀ t∈ls,bK cs t=true)(hn:ls.length<=8):eZ [.tup [.tup cs,.tup ls]] = .ok (.lst (bds cs ls)):=by
 &⟨hc,c1,c4⟩:=dk hcs
 &a8 rfl ?_
 show dI [.va (.tup [.tup cs,.tup ls]),.em,.em,.em,.em,.em,.em,.em,.em,.em,.em,.em] =_
 #,dI
 rw [az (ρ':=[.va (.tup [.tup cs,.tup ls]),.ow (.lst []),.em,.em,.em,.em,.em,.em,.em,.em,.em,.em]) (tD (by simp))]
 &⟨y2,y3,y4,y5,y6,y7,e⟩:=uH (.tup [.tup cs,.tup ls]) .em .em .em .em cs [] 0 .em .em .em .em .em .em hc (by simp;omega)
 rw [az ((dq (ts:=cp 0 cs) rfl e))]
 have:=qA (i:=0) hc
 &⟨y8,y9,y10,y11,e2⟩:=uz (.tup [.tup cs,.tup ls]) cs y2 y3 y4 y5 y6 y7 ls ([] ++bC 0 cs) .em .em .em .em hls (by rw [List.nil_append];omega)
 rw [az ((dq (ts:=ls) rfl e2))]
 rfl
&pM {l:List T}:(T.tup l).pl=plS l:=by #,T.pl;rfl
&Good.parts {cs ls:List T}(g:Good cs ls):(T.tup cs).pl=true/\∀ t∈ls,t.pl=true:=by
 have:=g.p
 rw [pM]at this
 unfold plS at this
 rw [Bool.and_eq_true]at this
 have h2:=this.2
 unfold plS at h2
 rw [Bool.and_eq_true,pM]at h2
 #⟨this.1,fun t ht=>gX h2.1 ht⟩
&r0:qm "NoRecord" = .ok (gC 0):=by #,qm;rw [if_pos rfl]
&r1:qm "NoEvent" = .ok (gC 1):=by #,qm;rw [if_neg (by decide),if_pos rfl]
&r2:qm "NoNumber" = .ok (gC 2):=by #,qm;rw [if_neg (by decide),if_neg (by decide),if_pos rfl]
&pick_at {l:List T}{r:Int}(h0:0<=r)(h1:r<l.length):∃ t∈l,aN (.lst l) (.int r)= .ok t:=by
 &⟨n,rfl⟩:=Int.eq_ofNat_of_zero_le h0
 have hn:n<l.length:=by omega
 #⟨l[n],List.getElem_mem hn,tG hn⟩
&sm_plT {t:T}(h:sm 8 t=true):t.pl=true:=sm_pl t h
abbrev peF:En->Rs Fl:=mn 1 (dv (iR (ac (cl bL (ac (o2 aN (vr 3) (cn (.int 2))) ah)) ah)) [none,some 2] (gN 0) bT (aW (ac (vr 1) (ac (vr 0) ah))))
&rz (c0 s1:Sl)(x y:T)(r:List T)(i:Nat)(h:r.length<=4) :
  dv (iR (ac (cl bL (ac (o2 aN (vr 3) (cn (.int 2))) ah)) ah)) [none,some 2] (gN 0) bT (aW (ac (vr 1) (ac (vr 0) ah))) [c0,s1,.va (.int i),.va (.tup [x,y,.tup r])] = .ok (.lst (lE i r.length)):=
 ng (iR1 (j:=(r.length:Int)) rfl (by omega) (by omega)) (aw (k:=4) (by rw [fI];#h)) (by simp) fun t _=>mk2 _ _
&uk:∀ (cs:List T) (c0:T) (acc:List T) (i:Nat) (s2 s3:Sl),(∀c∈cs,bF c=true)->acc.length+4*cs.length<=100 →
  ∃y2 y3,aX evG peF (cp i cs) [.va c0,.ow (.lst acc),s2,s3] = .ok (.nx [.va c0,.ow (.lst (acc++ft i cs)),y2,y3])
 | [],c0,acc,i,s2,s3,_,_=>⟨s2,s3,by simp [cp,aX,ft]⟩
 | c::cs,c0,acc,i,s2,s3,hc,hl=>by
  &⟨x,y,r,rfl,r1,r2⟩:=gx (hc c List.mem_cons_self)
  rw [List.length_cons]at hl
  have st:peF [.va c0,.ow (.lst acc),.va (.int i),.va (.tup [x,y,.tup r])] = .ok (.nx [.va c0,.ow (.lst (acc++lE i r.length)),.va (.int i),.va (.tup [x,y,.tup r])]):=yg (l:=acc) (rz _ _ x y r i r2) rfl (by rw [iW];omega)
  &⟨z2,z3,ih⟩:=uk cs c0 (acc++lE i r.length) (i+1) (.va (.int i)) (.va (.tup [x,y,.tup r])) (fun c h=>hc c (List.mem_cons_of_mem _ h)) (by rw [List.length_append,iW];omega)
  &⟨z2,z3,?_⟩
  rw [cp,cX (ρ1:=[.va c0,.ow (.lst acc),.va (.int i),.va (.tup [x,y,.tup r])]) rfl st,ih,ft,List.append_assoc]
  rfl
&xF {cs ls:List T}(g:Good cs ls):iN [.tup [.tup cs,.tup ls]] = .ok (.lst (ft 0 cs)):=by
 &⟨hc,c1,c4⟩:=dk g.c
 &a8 rfl ?_
 show jb [.va (.tup [.tup cs,.tup ls]),.em,.em,.em] =_
 #,jb
 rw [az (k_ex (t:=.non) (aM (ts:=[.tup [.tup cs,.tup ls]]) rfl (rL g.p g.ok)))]
 rw [az (ρ':=[.va (.tup [.tup cs,.tup ls]),.ow (.lst []),.em,.em]) (tD (by simp))]
 &⟨y2,y3,e⟩:=uk cs (.tup [.tup cs,.tup ls]) [] 0 .em .em hc (by simp;omega)
 rw [az ((dq (ts:=cp 0 cs) rfl e))]
 rfl
&oJ {g:T->En->Rs En}{F:En->Rs Fl}(J:En->Prop){ts:List T}(h:∀ t∈ts,∀ρ,J ρ->∃ ρ1 ρ2,g t ρ= .ok ρ1/\F ρ1= .ok (.nx ρ2)/\J ρ2){ρ:En}(hj:J ρ):∃ ρ',aX g F ts ρ= .ok (.nx ρ')/\J ρ':=
 (mT (p:=fun _=>true) J ts (fun t ht ρ hj=>by
  &⟨ρ1,ρ2,a,b,c⟩:=h t ht ρ hj
  #⟨ρ1,a,fun _=>⟨ρ2,b,c⟩,fun h=>by cases h⟩) ρ hj).1 (by simp)
&p2 {a b:En->Rs T}{t u:T}{ρ:En}(ha:a ρ= .ok t)(hb:b ρ= .ok u):aW (ac a (ac b ah)) ρ= .ok (.tup [t,u]):=cm (al ha (al hb rfl)) (aw (k:=2) (by simp))
&bds_len {cs ls:List T}(g:Good cs ls):(bds cs ls).length<=60:=by
 #,bds
 rw [List.length_append]
 &⟨hc,c1,c4⟩:=dk g.c
 have:=qA (i:=0) hc
 have:=uJ ls
 have:=g.n
 omega
end G
namespace Gr
variable {ν:Type}[DecidableEq ν]
abbrev bf (ν:Type):=List (ν×ν×Int)
inductive Wk (L:bf ν):ν->ν->Int->Prop
 | nil (a:ν):Wk L a a 0
 | step {a b c:ν} {m s:Int}:(a,b,m)∈L->Wk L b c s->Wk L a c (m+s)
&Wk.one {L:bf ν}{a b:ν}{m:Int}(h:(a,b,m)∈L):Wk L a b m:=by
 have:=Wk.step h (Wk.nil (L:=L) b)
 rwa [Int.add_zero]at this
&Wk.app {L:bf ν}{a b c:ν}{s t:Int}(h:Wk L a b s)(k:Wk L b c t):Wk L a c (s+t):=by
 induction h with
 | nil a=>rwa [Int.zero_add]
 | step e _ ih=>rw [Int.add_assoc];#.step e (ih k)
def Holds (L:bf ν)(t:ν->Int):Prop:=∀ a b m,(a,b,m)∈L->t b - t a<=m
&Holds.walk {L:bf ν}{t:ν->Int}(h:Holds L t){a b:ν}{s:Int}(w:Wk L a b s):t b - t a<=s:=by
 induction w with
 | nil a=>omega
 | step e _ ih=>have:=h _ _ _ e;omega
def gy (L:bf ν):Prop:=∀ a s,Wk L a a s->0<=s
&Holds.noNeg {L:bf ν}{t:ν->Int}(h:Holds L t):gy L:=fun a s w=>by have:=h.walk w;omega
def Ch (L:bf ν):ν->List Nat->ν->Prop
 | a,[],b=>a=b
 | a,k::r,b=> ∃c m,L[k]? =some (a,c,m)/\Ch L c r b
def most (L:bf ν)(k:Nat):Int:=match L[k]? with
 | some x=>x.2.2
 | none=>0
def aO (L:bf ν):List Nat->Int
 | [] =>0
 | k::r=>most L k+aO L r
&kB (L:bf ν):∀ (p q:List Nat),aO L (p++q)=aO L p+aO L q
 | [],q=>by simp [aO]
 | k::p,q=>by rw [List.cons_append,aO,aO,kB L p q];omega
&Ch.wk {L:bf ν}:∀ {ks:List Nat} {a b:ν},Ch L a ks b->Wk L a b (aO L ks)
 | [],a,b,h=>by cases h;#.nil a
 | k::r,a,b,⟨c,m,e,h⟩=>by
  have:aO L (k::r)=m+aO L r:=by rw [aO,most,e]
  rw [this]
  #.step (List.mem_of_getElem? e) h.wk
&Wk.ch {L:bf ν}{a b:ν}{s:Int}(w:Wk L a b s):∃ ks,Ch L a ks b/\aO L ks=s:=by
 induction w with
 | nil a=>#⟨[],rfl,rfl⟩
 | step e _ ih=>
  &⟨ks,h1,h2⟩:=ih
  &⟨k,hk⟩:=List.getElem?_of_mem e
  &⟨k::ks,⟨_,_,hk,h1⟩,?_⟩
  rw [aO,most,hk,h2]
&Ch.app {L:bf ν}:∀ {p q:List Nat} {a b c:ν},Ch L a p b->Ch L b q c->Ch L a (p++q) c
 | [],q,a,b,c,h,k=>by cases h;#k
 | x::p,q,a,b,c,⟨d,m,e,h⟩,k=>⟨d,m,e,Ch.app h k⟩
&Ch.lt {L:bf ν}:∀ {ks:List Nat} {a b:ν},Ch L a ks b->∀ k∈ks,k<L.length
 | [],_,_,_,k,hk=>by simp at hk
 | x::r,a,b,⟨c,m,e,h⟩,k,hk=>by
  rcases List.mem_cons.mp hk with rfl | hk
  ·#(List.getElem?_eq_some_iff.mp e).1
  ·#h.lt k hk
&Ch.snoc {L:bf ν}{p:List Nat}{k:Nat}{a b c:ν}{m:Int}(h:Ch L a p b)(e:L[k]? =some (b,c,m)):Ch L a (p++ [k]) c:=h.app ⟨c,m,e,rfl⟩
def src (L:bf ν)(k:Nat):Option ν:=(L[k]?).map (·.1)
abbrev cu (ν:Type):=ν->Option (Int×List Nat)
def put (b:cu ν)(v:ν)(x:Int×List Nat):cu ν:=fun u=>if u=v then some x else b u
&dY {b:cu ν}{v:ν}{x:Int×List Nat}:put b v x v=some x:=by #,put;rw [if_pos rfl]
&jN {b:cu ν}{u v:ν}{x:Int×List Nat}(h:u≠v):put b v x u=b u:=by #,put;rw [if_neg h]
def dS (L:bf ν)(ks:List Nat):List ν:=ks.filterMap (src L)
def ee (b:cu ν)(v:ν)(d:Int):Bool:=match b v with
 | none=>true
 | some x=>decide (d<x.1)
def gM (L:bf ν)(b:cu ν)(k:Nat)(x:ν×ν×Int):Sum (Option (cu ν)) (List Nat):=match b x.1 with
 | none=> .inl none
 | some (d,w)=>if ee b x.2.1 (d+x.2.2)=true then
   if x.2.1∈dS L (w++ [k])then .inr ((w++ [k]).drop ((dS L (w++ [k])).idxOf x.2.1))else .inl (some (put b x.2.1 (d+x.2.2,w++ [k])))
  else .inl none
def ig (L:bf ν):Nat->bf ν->cu ν->Bool->Sum (cu ν×Bool) (List Nat)
 | _,[],b,mv=> .inl (b,mv)
 | k,x::r,b,mv=>match gM L b k x with
  | .inr q=> .inr q
  | .inl none=>ig L (k+1) r b mv
  | .inl (some b')=>ig L (k+1) r b' true
def settle (L:bf ν):Nat->cu ν->Option (Sum (cu ν) (List Nat))
 | 0,_=>none
 | n+1,b=>match ig L 0 L b false with
  | .inr q=>some (.inr q)
  | .inl (b',true)=>settle L n b'
  | .inl (b',false)=>some (.inl b')
&pW (L:bf ν)(p q:List Nat):dS L (p++q)=dS L p++dS L q:=by #,dS;rw [List.filterMap_append]
&pV {L:bf ν}{k:Nat}{x:ν×ν×Int}(e:L[k]? =some x):dS L [k] = [x.1]:=by #,dS src;simp [e]
&Ch.pas_cons {L:bf ν}{k:Nat}{r:List Nat}{a b:ν}(h:Ch L a (k::r) b):dS L (k::r)=a::dS L r:=by
 &⟨c,m,e,_⟩:=h
 rw [show k::r= [k] ++r from rfl,pW,pV e];rfl
&Ch.cut {L:bf ν}{v:ν}:∀ {ks:List Nat} {a b:ν},Ch L a ks b->v∈dS L ks->Ch L a (ks.take ((dS L ks).idxOf v)) v/\Ch L v (ks.drop ((dS L ks).idxOf v)) b/\(dS L ks).idxOf v<ks.length
 | [],a,b,_,hv=>by simp [dS]at hv
 | k::r,a,b,h,hv=>by
  rw [h.pas_cons]at hv ⊢
  have h0:=h
  &⟨c,m,e,h⟩:=h
  by_cases z:a=v
  ·subst z
   rw [List.idxOf_cons_self]
   #⟨rfl,h0,by simp⟩
  ·have hv':v∈dS L r:=by
    rcases List.mem_cons.mp hv with q | q
    ·#absurd q.symm z
    ·#q
   &⟨h1,h2,h3⟩:=h.cut hv'
   have ei:(a::dS L r).idxOf v=(dS L r).idxOf v+1:=by
    rw [List.idxOf_cons]
    have:(a == v)=false:=by rw [beq_eq_false_iff_ne];#z
    rw [this];rfl
   rw [ei]
   #⟨⟨c,m,e,h1⟩,h2,by simpa using h3⟩
structure Kept (L:bf ν)(S:List ν)(b:cu ν):Prop where
 walk:∀ v d w,b v=some (d,w)->∃ s∈S,Ch L s w v/\aO L w=d/\v∉dS L w/\(dS L w).Nodup/\∀ p q u,w=p++q->Ch L s p u->∃ d' w',b u=some (d',w')/\d'<=aO L p
 start:∀ s∈S,∃d w,b s=some (d,w)/\d<=0
&Kept.put {L:bf ν}{S:List ν}{b:cu ν}(K:Kept L S b){k:Nat}{a c:ν}{m d:Int}{w:List Nat}(e:L[k]? =some (a,c,m))(ha:b a=some (d,w))(hb:ee b c (d+m)=true)(hn:c∉dS L (w++ [k])) :
  Kept L S (put b c (d+m,w++ [k])):=by
 have low:∀ u d' w',b u=some (d',w')->∃ d'' w'',Gr.put b c (d+m,w++ [k]) u=some (d'',w'')/\d''<=d':=fun u d' w' h=>by
  by_cases z:u=c
  ·subst z
   &⟨_,_,dY,?_⟩
   unfold ee at hb
   rw [h]at hb
   have:=of_decide_eq_true hb
   omega
  ·#⟨d',w',by rw [jN z];#h,Int.le_refl _⟩
 &⟨s,hs,h1,h2,h3,h4,h5⟩:=K.walk a d w ha
 have hch:Ch L s (w++ [k]) c:=h1.snoc e
 have hcost:aO L (w++ [k])=d+m:=by rw [kB,h2,aO,aO,most,e];simp
 &⟨fun v d' w' h=> ?_,fun s' hs'=> ?_⟩
 ·by_cases z:v=c
  ·subst z
   rw [dY]at h
   cases h
   &⟨s,hs,hch,hcost,hn,?_,fun p q u hpq hp=> ?_⟩
   ·rw [pW,pV e]
    #List.nodup_append.mpr ⟨h4,by simp,fun x hx y hy=>by simp at hy;subst hy;#fun z=>h3 (z▸hx)⟩
   ·by_cases hq:q= []
    ·subst hq
     rw [List.append_nil]at hpq
     subst hpq
     have:u=v:=by
      clear low hb hn h5
      have aux:∀ {ks:List Nat} {x y z:ν},Ch L x ks y->Ch L x ks z->y=z:=by
       intro ks
       induction ks with
       | nil=>intro x y z h1 h2;cases h1;cases h2;rfl
       | cons k r ih=>
        rintro x y z ⟨c1,m1,e1,r1⟩ ⟨c2,m2,e2,r2⟩
        rw [e1]at e2;cases e2
        #ih r1 r2
      #aux hp hch
     subst this
     #⟨_,_,dY,by rw [hcost];#Int.le_refl _⟩
    ·have hw:∃ q',w=p++q':=by
      &⟨q.dropLast,?_⟩
      have:=congrArg List.dropLast hpq
      rw [List.dropLast_concat,List.dropLast_append_of_ne_nil hq]at this
      #this
     &⟨q',hw⟩:=hw
     &⟨d1,w1,e1,l1⟩:=h5 p q' u hw hp
     &⟨d2,w2,e2,l2⟩:=low u d1 w1 e1
     #⟨d2,w2,e2,by omega⟩
  ·rw [jN z]at h
   &⟨s',hs',g1,g2,g3,g4,g5⟩:=K.walk v d' w' h
   &⟨s',hs',g1,g2,g3,g4,fun p q u hpq hp=> ?_⟩
   &⟨d1,w1,e1,l1⟩:=g5 p q u hpq hp
   &⟨d2,w2,e2,l2⟩:=low u d1 w1 e1
   #⟨d2,w2,e2,by omega⟩
 ·&⟨d1,w1,e1,l1⟩:=K.start s' hs'
  &⟨d2,w2,e2,l2⟩:=low s' d1 w1 e1
  #⟨d2,w2,e2,by omega⟩
def Bar (L:bf ν)(q:List Nat):Prop:=q≠ []/\(∃a,Ch L a q a)/\aO L q<0/\(dS L q).Nodup
&Ch.pas_drop {L:bf ν}:∀ {ks:List Nat} {a b:ν} (i:Nat),Ch L a ks b->dS L (ks.drop i)=(dS L ks).drop i
 | [],_,_,i,_=>by simp [dS]
 | k::r,a,b,0,_=>rfl
 | k::r,a,b,i+1,h=>by
  have:=h
  &⟨c,m,e,h'⟩:=this
  rw [h.pas_cons,List.drop_succ_cons,List.drop_succ_cons,h'.pas_drop i]
&Kept.round {L:bf ν}{S:List ν}{b:cu ν}(K:Kept L S b){k:Nat}{a c:ν}{m d:Int}{w:List Nat}(e:L[k]? =some (a,c,m))(ha:b a=some (d,w))(hb:ee b c (d+m)=true)(hn:c∈dS L (w++ [k])) :
  Bar L ((w++ [k]).drop ((dS L (w++ [k])).idxOf c)):=by
 &⟨s,hs,h1,h2,h3,h4,h5⟩:=K.walk a d w ha
 have hch:Ch L s (w++ [k]) c:=h1.snoc e
 have hcost:aO L (w++ [k])=d+m:=by rw [kB,h2,aO,aO,most,e];simp
 &⟨c1,c2,c3⟩:=hch.cut hn
 generalize hi:(dS L (w++ [k])).idxOf c=i at c1 c2 c3
 &⟨fun z=> ?_,⟨c,c2⟩,?_,?_⟩
 ·have:=congrArg List.length z
  rw [List.length_drop]at this
  simp at this c3
  omega
 ·have hsum:aO L ((w++ [k]).take i)+aO L ((w++ [k]).drop i)=d+m:=by rw [<-kB,List.take_append_drop,hcost]
  have hiw:i<=w.length:=by simp at c3;omega
  have ht:(w++ [k]).take i=w.take i:=by rw [List.take_append_of_le_length hiw]
  rw [ht]at c1 hsum
  &⟨d1,w1,e1,l1⟩:=h5 (w.take i) (w.drop i) c (List.take_append_drop i w).symm c1
  unfold ee at hb
  rw [e1]at hb
  have:=of_decide_eq_true hb
  simp only at this
  omega
 ·rw [hch.pas_drop,pW,pV e]
  &(List.drop_sublist _ _).nodup (List.nodup_append.mpr ⟨h4,by simp,fun x hx y hy=> ?_⟩)
  rw [List.mem_singleton.mp hy]
  #fun z=>h3 (by have z:x=a:=z;rw [<-z];#hx)
def size (L:bf ν):Nat:=(L.map fun x=>x.2.2.natAbs).sum
&jC {f:Nat->Nat}:∀ {ks rs:List Nat},ks.Nodup->(∀k∈ks,k∈rs)->(ks.map f).sum<=(rs.map f).sum
 | [],rs,_,_=>by simp
 | k::ks,rs,hn,hs=>by
  have hk:k∈rs:=hs k List.mem_cons_self
  rw [List.nodup_cons]at hn
  have hp:=List.perm_cons_erase hk
  have e:(rs.map f).sum=f k+((rs.erase k).map f).sum:=by
   have:=(hp.map f).sum_nat
   rwa [List.map_cons,List.sum_cons]at this
  rw [e,List.map_cons,List.sum_cons]
  have:=jC (f:=f) hn.2 (rs:=rs.erase k) fun j hj=>by
   have h1:=hs j (List.mem_cons_of_mem _ hj)
   #(List.mem_erase_of_ne (fun(z:j=k)=>hn.1 (z▸hj))).mpr h1
  omega
&sP (L:bf ν):size L=((List.range L.length).map fun k=>(most L k).natAbs).sum:=by
 #,size
 congr 1
 apply List.ext_getElem
 ·simp
 ·intro i h1 h2
  simp only [List.getElem_map,List.getElem_range]
  #,most
  rw [List.getElem?_eq_getElem (by simpa using h1)]
&uX (L:bf ν):∀ (ks:List Nat),(aO L ks).natAbs<=(ks.map fun k=>(most L k).natAbs).sum
 | [] =>by simp [aO]
 | k::r=>by
  have:=uX L r
  rw [aO,List.map_cons,List.sum_cons]
  omega
&Ch.nodup {L:bf ν}:∀ {ks:List Nat} {a b:ν},Ch L a ks b->(dS L ks).Nodup->ks.Nodup
 | [],_,_,_,_=>List.nodup_nil
 | k::r,a,b,h,hn=>by
  have h0:=h
  rw [h.pas_cons,List.nodup_cons]at hn
  &⟨c,m,e,h⟩:=h
  rw [List.nodup_cons]
  &⟨fun hk=>hn.1 ?_,h.nodup hn.2⟩
  #,dS src
  #List.mem_filterMap.mpr ⟨k,hk,by rw [e];rfl⟩
&Ch.small {L:bf ν}{ks:List Nat}{a b:ν}(h:Ch L a ks b)(hn:(dS L ks).Nodup):(aO L ks).natAbs<=size L:=by
 rw [sP]
 #Nat.le_trans (uX L ks) (jC (h.nodup hn) fun k hk=>List.mem_range.mpr (h.lt k hk))
def val (M:Nat)(b:cu ν)(v:ν):Nat:=match b v with
 | none=>2*M+1
 | some x=>(x.1+M).toNat
def left (M:Nat)(b:cu ν)(L:bf ν):Nat:=(L.map fun x=>val M b x.2.1).sum
&uD {M:Nat}{b b':cu ν}:∀ {L:bf ν},(∀x∈L,val M b' x.2.1<=val M b x.2.1)->left M b' L<=left M b L
 | [],_=>by simp [left]
 | x::L,h=>by
  have h1:=h x List.mem_cons_self
  have h2:=uD (L:=L) fun y hy=>h y (List.mem_cons_of_mem _ hy)
  unfold left at h2 ⊢
  rw [List.map_cons,List.sum_cons,List.map_cons,List.sum_cons]
  omega
&uC {M:Nat}{b b':cu ν}{x:ν×ν×Int}:∀ {L:bf ν},x∈L->(∀x∈L,val M b' x.2.1<=val M b x.2.1)->val M b' x.2.1<val M b x.2.1->left M b' L<left M b L
 | [],hx,_,_=>by simp at hx
 | y::L,hx,h,hl=>by
  have h1:=h y List.mem_cons_self
  have h2:=uD (L:=L) fun y hy=>h y (List.mem_cons_of_mem _ hy)
  unfold left at h2 ⊢
  rw [List.map_cons,List.sum_cons,List.map_cons,List.sum_cons]
  rcases List.mem_cons.mp hx with rfl | hx
  ·omega
  ·have h3:=uC (L:=L) hx (fun y hy=>h y (List.mem_cons_of_mem _ hy)) hl
   unfold left at h3
   omega
&xX {L:bf ν}{S:List ν}{b:cu ν}(K:Kept L S b){k:Nat}{a c:ν}{m d:Int}{w:List Nat}(e:L[k]? =some (a,c,m))(ha:b a=some (d,w))(hb:ee b c (d+m)=true)(hn:c∉dS L (w++ [k])) :
  left (size L) (put b c (d+m,w++ [k])) L<left (size L) b L:=by
 have K':=K.put e ha hb hn
 &⟨s,hs,h1,h2,h3,h4,h5⟩:=K'.walk c (d+m) (w++ [k]) dY
 have sm:=h1.small h4
 rw [h2]at sm
 have lt:val (size L) (put b c (d+m,w++ [k])) c<val (size L) b c:=by
  unfold val ee at*
  rw [dY]
  cases z:b c with
  | none=>simp only;omega
  | some y=>
   rw [z]at hb
   have hb:=of_decide_eq_true hb
   simp only
   omega
 &uC (x:=(a,c,m)) (List.mem_of_getElem? e) (fun y _=> ?_) lt
 by_cases z:y.2.1=c
 ·rw [z];#Nat.le_of_lt lt
 ·#,val;rw [jN z];#Nat.le_refl _
def yY (b:cu ν)(x:ν×ν×Int):Prop:=∀ d w,b x.1=some (d,w)->∃ d' w',b x.2.1=some (d',w')/\d'<=d+x.2.2
&wP {b:cu ν}{x:ν×ν×Int}(h:∀ d w,b x.1=some (d,w)->ee b x.2.1 (d+x.2.2)=false):yY b x:=fun d w e=>by
 have:=h d w e
 unfold ee at this
 cases z:b x.2.1 with
 | none=>rw [z]at this;cases this
 | some y=>
  rw [z]at this
  have:=of_decide_eq_false this
  #⟨y.1,y.2,rfl,by omega⟩
&iu {L:bf ν}{S:List ν}:∀ (r:bf ν) (k:Nat) (b:cu ν) (mv:Bool),L.drop k=r->Kept L S b->match ig L k r b mv with
  | .inr q=>Bar L q
  | .inl (b',mv')=>Kept L S b'/\(mv'=false->mv=false/\b'=b/\∀ x∈r,yY b x)/\left (size L) b' L<=left (size L) b L/\(mv'=true->mv=true\/left (size L) b' L<left (size L) b L)
 | [],k,b,mv,_,K=>⟨K,fun h=>⟨h,rfl,fun x hx=>by simp at hx⟩,Nat.le_refl _,fun h=> .inl h⟩
 | x::r,k,b,mv,hr,K=>by
  have e:L[k]? =some x:=by
   have:=congrArg (·[0]?) hr
   simpa using this
  have hr':L.drop (k+1)=r:=by
   have:=congrArg (List.drop 1) hr
   simpa [List.drop_drop,Nat.add_comm]using this
  rw [ig]
  &⟨a,c,m⟩:=x
  #,gM
  cases z:b a with
  | none=>
   simp only [z]
   have ih:=iu r (k+1) b mv hr' K
   revert ih
   generalize ig L (k+1) r b mv=R
   cases R with
   | inr q=>#id
   | inl p=>
    &⟨b',mv'⟩:=p
    rintro ⟨i1,i2,i3,i4⟩
    &⟨i1,fun h=> ?_,i3,i4⟩
    &⟨j1,j2,j3⟩:=i2 h
    &⟨j1,j2,fun x hx=> ?_⟩
    rcases List.mem_cons.mp hx with rfl | hx
    ·intro d w q;rw [z]at q;cases q
    ·#j3 x hx
  | some y=>
   &⟨d,w⟩:=y
   simp only [z]
   by_cases hb:ee b c (d+m)=true
   ·rw [if_pos hb]
    by_cases hn:c∈dS L (w++ [k])
    ·rw [if_pos hn]
     #K.round e z hb hn
    ·rw [if_neg hn]
     have K':=K.put e z hb hn
     have lt:=xX K e z hb hn
     have ih:=iu r (k+1) (put b c (d+m,w++ [k])) true hr' K'
     revert ih
     simp only
     generalize ig L (k+1) r (put b c (d+m,w++ [k])) true=R
     cases R with
     | inr q=>#id
     | inl p=>
      &⟨b',mv'⟩:=p
      rintro ⟨i1,i2,i3,i4⟩
      &⟨i1,fun h=> ?_,by omega,fun _=> .inr (by omega)⟩
      &⟨j1,_⟩:=i2 h
      cases j1
   ·rw [if_neg hb]
    have ih:=iu r (k+1) b mv hr' K
    revert ih
    simp only
    generalize ig L (k+1) r b mv=R
    cases R with
    | inr q=>#id
    | inl p=>
     &⟨b',mv'⟩:=p
     rintro ⟨i1,i2,i3,i4⟩
     &⟨i1,fun h=> ?_,i3,i4⟩
     &⟨j1,j2,j3⟩:=i2 h
     &⟨j1,j2,fun x hx=> ?_⟩
     rcases List.mem_cons.mp hx with rfl | hx
     ·&wP fun d' w' q=> ?_
      simp only at q
      rw [z]at q;cases q
      simpa using hb
     ·#j3 x hx
structure Settled (L:bf ν)(S:List ν)(b:cu ν):Prop where
 walk:∀ v d w,b v=some (d,w)->∃ s∈S,Ch L s w v/\aO L w=d/\v∉dS L w/\(dS L w).Nodup
 least:∀ s∈S,∀v t,Wk L s v t->∃ d w,b v=some (d,w)/\d<=t
&sQ {L:bf ν}{S:List ν}{b:cu ν}(K:Kept L S b)(h:∀ x∈L,yY b x):Settled L S b where
 walk:=fun v d w e=>by
  &⟨s,h1,h2,h3,h4,h5,_⟩:=K.walk v d w e
  #⟨s,h1,h2,h3,h4,h5⟩
 least:=by
  have go:∀ {u v:ν} {t:Int},Wk L u v t->∀ d w,b u=some (d,w)->∃ d' w',b v=some (d',w')/\d'<=d+t:=by
   intro u v t hw
   induction hw with
   | nil a=>#fun d w e=>⟨d,w,e,by omega⟩
   | step e _ ih=>
    intro d w q
    &⟨d1,w1,e1,l1⟩:=h _ e d w q
    &⟨d2,w2,e2,l2⟩:=ih d1 w1 e1
    #⟨d2,w2,e2,by simp only at l1;omega⟩
  intro s hs v t hw
  &⟨d,w,e,l⟩:=K.start s hs
  &⟨d2,w2,e2,l2⟩:=go hw d w e
  #⟨d2,w2,e2,by omega⟩
&oB {L:bf ν}{S:List ν}:∀ (n:Nat) (b:cu ν),Kept L S b->left (size L) b L<n->∃ r,settle L n b=some r/\match r with
  | .inr q=>Bar L q
  | .inl b'=>Settled L S b'
 | 0,b,K,h=>by omega
 | n+1,b,K,h=>by
  have s:=iu (S:=S) L 0 b false rfl K
  rw [settle]
  revert s
  generalize ig L 0 L b false=R
  cases R with
  | inr q=>#fun s=>⟨_,rfl,s⟩
  | inl p=>
   &⟨b',mv'⟩:=p
   rintro ⟨i1,i2,i3,i4⟩
   cases mv' with
   | false=>
    &⟨_,j2,j3⟩:=i2 rfl
    subst j2
    #⟨_,rfl,sQ i1 j3⟩
   | true=>
    rcases i4 rfl with z | z
    ·cases z
    ·#oB n b' i1 (by omega)
def start (S:List ν):cu ν:=fun v=>if v∈S then some (0,[])else none
&m5 (L:bf ν)(S:List ν):Kept L S (start S) where
 walk:=fun v d w e=>by
  unfold start at e
  split at e
  ·rename_i h
   cases e
   &⟨v,h,rfl,rfl,by simp [dS],by simp [dS],fun p q u hpq hp=> ?_⟩
   &⟨rfl,rfl⟩:=List.append_eq_nil_iff.mp hpq.symm
   cases hp
   #⟨0,[],by #,start;rw [if_pos h],by simp [aO]⟩
  ·cases e
 start:=fun s hs=>⟨0,[],by #,start;rw [if_pos hs],Int.le_refl _⟩
&xY (L:bf ν)(S:List ν):left (size L) (start S) L<=L.length*(2*size L+1):=by
 #,left
 have:∀ M:bf ν,(M.map fun x=>val (size L) (start S) x.2.1).sum<=M.length*(2*size L+1):=by
  intro M
  induction M with
  | nil=>simp
  | cons x M ih=>
   rw [List.map_cons,List.sum_cons,List.length_cons,Nat.succ_mul]
   have:val (size L) (start S) x.2.1<=2*size L+1:=by
    #,val start
    split
    ·#Nat.le_refl _
    ·rename_i h
     split at h
     ·cases h;simp;omega
     ·cases h
   omega
 #this L
&sR (L:bf ν)(S:List ν){n:Nat}(h:L.length*(2*size L+1)<n):∃ r,settle L n (start S)=some r/\match r with
  | .inr q=>Bar L q
  | .inl b'=>Settled L S b':=oB n (start S) (m5 L S) (Nat.lt_of_le_of_lt (xY L S) h)
&Settled.holds {L:bf ν}{S:List ν}{b:cu ν}(h:Settled L S b)(hS:∀ x∈L,x.1∈S/\x.2.1∈S){t:ν->Int}(ht:∀ v∈S,∃w,b v=some (t v,w)):Holds L t:=fun a c m hx=>by
 &⟨ha,hc⟩:=hS _ hx
 &⟨w,e⟩:=ht a ha
 &⟨s,hs,h1,h2,_⟩:=h.walk a _ _ e
 &⟨d,w',e',l⟩:=h.least s hs c _ (h1.wk.app (.one hx))
 &⟨w2,e2⟩:=ht c hc
 rw [e2]at e';cases e'
 omega
inductive Pth (L:bf ν):ν->List ν->ν->Int->Prop
 | one {a b:ν} {m:Int}:(a,b,m)∈L->Pth L a [] b m
 | cons {a x b:ν} {ms:List ν} {m s:Int}:(a,x,m)∈L->Pth L x ms b s->Pth L a (x::ms) b (m+s)
&Pth.cut {L:bf ν}{x:ν}{q:List ν}:∀ {p:List ν} {a b:ν} {s:Int},Pth L a (p++x::q) b s->∃ s1 s2,Pth L a p x s1/\Pth L x q b s2/\s=s1+s2
 | [],a,b,s,h=>by
  cases h with
  | cons e h=>#⟨_,_,.one e,h,rfl⟩
 | y::p,a,b,s,h=>by
  cases h with
  | cons e h=>
   &⟨s1,s2,h1,h2,h3⟩:=Pth.cut h
   #⟨_,s2,.cons e h1,h2,by omega⟩
def Simple (L:bf ν)(u v:ν)(s:Int):Prop:=(u=v/\s=0)\/(u≠v/\∃ ms,Pth L u ms v s/\ms.Nodup/\u∉ms/\v∉ms)
def zc (L:bf ν):Prop:=∃ x ms s,Pth L x ms x s/\ms.Nodup/\x∉ms/\s<0
&Wk.simple {L:bf ν}{u v:ν}{s:Int}(w:Wk L u v s):zc L\/∃ s',s'<=s/\Simple L u v s':=by
 induction w with
 | nil a=>#.inr ⟨0,Int.le_refl _,.inl ⟨rfl,rfl⟩⟩
 | @step a b c m s e w ih=>
  rcases ih with ih | ⟨s',hs,ih⟩
  ·#.inl ih
  by_cases hab:a=b
  ·subst hab
   by_cases hm:m<0
   ·#.inl ⟨a,[],m,.one e,List.nodup_nil,by simp,hm⟩
   ·#.inr ⟨s',by omega,ih⟩
  rcases ih with⟨rfl,rfl⟩ | ⟨hbc,ms,hp,hn,hb,hc⟩
  ·#.inr ⟨m,by omega,.inr ⟨hab,[],.one e,List.nodup_nil,by simp,by simp⟩⟩
  by_cases hac:a=c
  ·subst hac
   by_cases hm:m+s'<0
   ·#.inl ⟨a,b::ms,m+s',.cons e hp,List.nodup_cons.mpr ⟨hb,hn⟩,by simp [hab,hc],hm⟩
   ·#.inr ⟨0,by omega,.inl ⟨rfl,rfl⟩⟩
  by_cases ham:a∈ms
  ·&⟨p,q,rfl⟩:=List.append_of_mem ham
   &⟨s1,s2,h1,h2,h3⟩:=hp.cut
   rw [List.nodup_append]at hn
   &⟨n1,n2,n3⟩:=hn
   rw [List.nodup_cons]at n2
   have hap:a∉p:=fun z=>n3 a z a List.mem_cons_self rfl
   by_cases hm:m+s1<0
   ·&.inl ⟨a,b::p,m+s1,.cons e h1,List.nodup_cons.mpr ⟨fun z=>hb (List.mem_append_left _ z),n1⟩,by simp [hab,hap],hm⟩
   ·#.inr ⟨s2,by omega,.inr ⟨hac,q,h2,n2.2,n2.1,fun z=>hc (List.mem_append_right _ (List.mem_cons_of_mem _ z))⟩⟩
  ·&.inr ⟨m+s',by omega,.inr ⟨hac,b::ms,.cons e hp,List.nodup_cons.mpr ⟨hb,hn⟩,by simp [hab,ham],?_⟩⟩
   simp only [List.mem_cons,not_or]
   #⟨fun z=>hbc z.symm,hc⟩
abbrev eU (ν:Type):=ν->ν->Option Int
def iU (f:eU ν)(a b:ν)(x:Int):eU ν:=fun u v=>if u=a/\v=b then some x else f u v
def lD (f:eU ν)(a b:ν)(x:Int):eU ν:=match f a b with
 | none=>iU f a b x
 | some y=>if x<y then iU f a b x else f
def kw (mid one other:ν)(f:eU ν):eU ν:=match f one mid,f mid other with
 | some x,some y=>lD f one other (x+y)
 | _,_=>f
def qP (P:List ν):eU ν:=fun u v=>if u∈P/\u=v then some 0 else none
def wH (P:List ν)(L:bf ν):eU ν:=L.foldl (fun f x=>lD f x.1 x.2.1 x.2.2) (qP P)
def kx (mid one:ν)(P:List ν)(f:eU ν):eU ν:=P.foldl (fun f other=>kw mid one other f) f
def nr (mid:ν)(Q P:List ν)(f:eU ν):eU ν:=Q.foldl (fun f one=>kx mid one P f) f
def rX (M P:List ν)(f:eU ν):eU ν:=M.foldl (fun f mid=>nr mid P P f) f
def table (P:List ν)(L:bf ν):eU ν:=rX P P (wH P L)
def Le (f g:eU ν):Prop:=∀ u v x,g u v=some x->∃ y,f u v=some y/\y<=x
&Le.refl (f:eU ν):Le f f:=fun u v x h=>⟨x,h,Int.le_refl _⟩
&Le.trans {f g h:eU ν}(a:Le f g)(b:Le g h):Le f h:=fun u v x e=>by
 &⟨y,e1,l1⟩:=b u v x e
 &⟨z,e2,l2⟩:=a u v y e1
 #⟨z,e2,by omega⟩
&kW {f:eU ν}{a b:ν}{x:Int}:iU f a b x a b=some x:=by #,iU;rw [if_pos ⟨rfl,rfl⟩]
&qo (f:eU ν)(a b:ν)(x:Int):Le (lD f a b x) f:=fun u v y e=>by
 #,lD
 cases q:f a b with
 | none=>
  by_cases z:u=a/\v=b
  ·&⟨rfl,rfl⟩:=z;rw [q]at e;cases e
  ·#⟨y,by simp only;#,iU;rw [if_neg z];#e,Int.le_refl _⟩
 | some y0=>
  simp only
  split
  ·by_cases z:u=a/\v=b
   ·&⟨rfl,rfl⟩:=z;rw [q]at e;cases e
    #⟨x,kW,by omega⟩
   ·#⟨y,by #,iU;rw [if_neg z];#e,Int.le_refl _⟩
  ·#⟨y,e,Int.le_refl _⟩
&uS (f:eU ν)(a b:ν)(x:Int):∃ y,lD f a b x a b=some y/\y<=x:=by
 #,lD
 cases q:f a b with
 | none=>#⟨x,kW,Int.le_refl _⟩
 | some y0=>
  simp only
  split
  ·#⟨x,kW,Int.le_refl _⟩
  ·#⟨y0,q,by omega⟩
&nu {L:bf ν}{f:eU ν}{a b:ν}{x:Int}(h:∀ u v y,f u v=some y->Wk L u v y)(hx:Wk L a b x):∀ u v y,lD f a b x u v=some y->Wk L u v y:=fun u v y e=>by
 have key:iU f a b x u v=some y->Wk L u v y:=fun e'=>by
  unfold iU at e'
  by_cases z:u=a/\v=b
  ·rw [if_pos z]at e';injection e' with e';rw [z.1,z.2,<-e'];#hx
  ·rw [if_neg z]at e';#h u v y e'
 unfold lD at e
 cases q:f a b with
 | none=>rw [q]at e;#key e
 | some y0=>
  rw [q]at e
  simp only at e
  split at e
  ·#key e
  ·#h u v y e
&rV (mid one other:ν)(f:eU ν):Le (kw mid one other f) f:=by
 #,kw
 split
 ·#qo _ _ _ _
 ·#Le.refl f
&yx {mid one other:ν}{f:eU ν}{x y:Int}(h1:f one mid=some x)(h2:f mid other=some y):∃ z,kw mid one other f one other=some z/\z<=x+y:=by
 #,kw
 rw [h1,h2]
 #uS _ _ _ _
&jr {α:Type}(step:eU ν->α->eU ν)(hs:∀ f a,Le (step f a) f):∀ (l:List α) (f:eU ν),Le (l.foldl step f) f
 | [],f=>Le.refl f
 | a::l,f=>(jr step hs l (step f a)).trans (hs f a)
&nj (mid one:ν)(P:List ν)(f:eU ν):Le (kx mid one P f) f:=jr _ (fun f o=>rV mid one o f) P f
&rW (mid:ν)(Q P:List ν)(f:eU ν):Le (nr mid Q P f) f:=jr _ (fun f o=>nj mid o P f) Q f
&yB (M P:List ν)(f:eU ν):Le (rX M P f) f:=jr _ (fun f o=>rW o P P f) M f
&lQ {α:Type}(step:eU ν->α->eU ν)(hs:∀ f a,Le (step f a) f):∀ (l:List α) (f:eU ν) (a:α),a∈l->∃ g,Le g f/\Le (l.foldl step f) (step g a)
 | [],f,a,h=>by simp at h
 | b::l,f,a,h=>by
  rcases List.mem_cons.mp h with rfl | h
  ·#⟨f,Le.refl f,jr step hs l (step f a)⟩
  ·&⟨g,h1,h2⟩:=lQ step hs l (step f b) a h
   #⟨g,h1.trans (hs f b),h2⟩
&yA {mid u v:ν}{P:List ν}{f:eU ν}{x y:Int}(hu:u∈P)(hv:v∈P)(h1:f u mid=some x)(h2:f mid v=some y):∃ z,nr mid P P f u v=some z/\z<=x+y:=by
 &⟨g,g1,g2⟩:=lQ (fun f one=>kx mid one P f) (fun f o=>nj mid o P f) P f u hu
 &⟨g',g3,g4⟩:=lQ (fun f other=>kw mid u other f) (fun f o=>rV mid u o f) P g v hv
 have l:Le g' f:=g3.trans g1
 &⟨x',e1,l1⟩:=l _ _ _ h1
 &⟨y',e2,l2⟩:=l _ _ _ h2
 &⟨z,e3,l3⟩:=yx e1 e2
 &⟨z',e4,l4⟩:=(g2.trans g4) _ _ _ e3
 #⟨z',e4,by omega⟩
def Up (L:bf ν)(M:List ν)(f:eU ν):Prop:=∀ u v ms s,Pth L u ms v s->ms.Nodup->(∀x∈ms,x∈M)->∃ y,f u v=some y/\y<=s
&Pth.ends {L:bf ν}{P:List ν}(hL:∀ x∈L,x.1∈P/\x.2.1∈P){u v:ν}{ms:List ν}{s:Int}(h:Pth L u ms v s):u∈P/\v∈P/\∀ x∈ms,x∈P:=by
 induction h with
 | one e=>#⟨(hL _ e).1,(hL _ e).2,by simp⟩
 | cons e _ ih=>#⟨(hL _ e).1,ih.2.1,fun x hx=>by
   rcases List.mem_cons.mp hx with rfl | hx
   ·#ih.1
   ·#ih.2.2 x hx⟩
&Up.mid {L:bf ν}{P M:List ν}{f:eU ν}(hL:∀ x∈L,x.1∈P/\x.2.1∈P)(h:Up L M f)(k:ν):Up L (k::M) (nr k P P f):=fun u v ms s hp hn hm=>by
 by_cases hk:k∈ms
 ·&⟨p,q,rfl⟩:=List.append_of_mem hk
  &⟨s1,s2,h1,h2,h3⟩:=hp.cut
  rw [List.nodup_append]at hn
  &⟨n1,n2,n3⟩:=hn
  rw [List.nodup_cons]at n2
  have hp':∀ x∈p,x∈M:=fun x hx=>by
   rcases List.mem_cons.mp (hm x (List.mem_append_left _ hx))with rfl | z
   ·#absurd rfl (n3 x hx x List.mem_cons_self)
   ·#z
  have hq':∀ x∈q,x∈M:=fun x hx=>by
   rcases List.mem_cons.mp (hm x (List.mem_append_right _ (List.mem_cons_of_mem _ hx)))with rfl | z
   ·#absurd hx n2.1
   ·#z
  &⟨y1,e1,l1⟩:=h u k p s1 h1 n1 hp'
  &⟨y2,e2,l2⟩:=h k v q s2 h2 n2.2 hq'
  &⟨z,e3,l3⟩:=yA (P:=P) (h1.ends hL).1 (h2.ends hL).2.1 e1 e2
  #⟨z,e3,by omega⟩
 ·&⟨y,e,l⟩:=h u v ms s hp hn fun x hx=>by
   rcases List.mem_cons.mp (hm x hx)with rfl | z
   ·#absurd hx hk
   ·#z
  &⟨z,e2,l2⟩:=rW k P P f u v y e
  #⟨z,e2,by omega⟩
&Up.mids {L:bf ν}{P:List ν}(hL:∀ x∈L,x.1∈P/\x.2.1∈P):∀ (Q M:List ν) (f:eU ν),Up L M f->∃ M',(∀x,x∈Q\/x∈M->x∈M')/\Up L M' (rX Q P f)
 | [],M,f,h=>⟨M,fun x hx=>hx.elim (fun z=>by simp at z) id,h⟩
 | k::Q,M,f,h=>by
  &⟨M',h1,h2⟩:=Up.mids hL Q (k::M) (nr k P P f) (h.mid hL k)
  &⟨M',fun x hx=>h1 x ?_,h2⟩
  rcases hx with hx | hx
  ·rcases List.mem_cons.mp hx with rfl | hx
   ·#.inr List.mem_cons_self
   ·#.inl hx
  ·#.inr (List.mem_cons_of_mem _ hx)
&tab1_up {P:List ν}{L:bf ν}:Up L [] (wH P L):=fun u v ms s hp hn hm=>by
 have:ms= []:=by
  cases ms with
  | nil=>rfl
  | cons x r=>#absurd (hm x List.mem_cons_self) (by simp)
 subst this
 cases hp with
 | one e=>
  &⟨g,h1,h2⟩:=lQ (fun(f:eU ν) (x:ν×ν×Int)=>lD f x.1 x.2.1 x.2.2) (fun f x=>qo f _ _ _) L (qP P) _ e
  &⟨y,e1,l1⟩:=uS g u v s
  &⟨z,e2,l2⟩:=h2 u v y e1
  #⟨z,e2,by omega⟩
&gg {α:Type}{L:bf ν}(step:eU ν->α->eU ν):∀ (l:List α) (f:eU ν),(∀f,∀a∈l,(∀u v y,f u v=some y->Wk L u v y)->∀ u v y,step f a u v=some y->Wk L u v y)->(∀u v y,f u v=some y->Wk L u v y)->∀ u v y,l.foldl step f u v=some y->Wk L u v y
 | [],f,_,h=>h
 | a::l,f,hs,h=>gg step l (step f a) (fun f b hb=>hs f b (List.mem_cons_of_mem _ hb)) (hs f a List.mem_cons_self h)
&k8 (P:List ν)(L:bf ν):∀ u v y,table P L u v=some y->Wk L u v y:=by
 #,table rX
 &gg _ P _ (fun f m _ h=> ?_) ?_
 ·#,nr
  &gg _ P _ (fun f o _ h=> ?_) h
  #,kx
  &gg _ P _ (fun f v _ h=> ?_) h
  #,kw
  cases e1:f o m with
  | none=>#h
  | some x=>
   cases e2:f m v with
   | none=>#h
   | some y=>#nu h ((h _ _ _ e1).app (h _ _ _ e2))
 ·#,wH
  &gg _ L _ (fun f x hx h=>nu h (.one hx)) fun u v y e=> ?_
  unfold qP at e
  split at e
  ·rename_i z;&⟨_,rfl⟩:=z;cases e;#.nil u
  ·cases e
&qN {P:List ν}{L:bf ν}(hL:∀ x∈L,x.1∈P/\x.2.1∈P):∀ u v ms s,Pth L u ms v s->ms.Nodup->∃ y,table P L u v=some y/\y<=s:=fun u v ms s hp hn=>by
 &⟨M',h1,h2⟩:=Up.mids hL P [] (wH P L) tab1_up
 #h2 u v ms s hp hn fun x hx=>h1 x (.inl ((hp.ends hL).2.2 x hx))
&lZ {P:List ν}{L:bf ν}{u:ν}(hu:u∈P):∃ y,table P L u u=some y/\y<=0:=by
 have h0:qP P u u=some 0:=by #,qP;rw [if_pos ⟨hu,rfl⟩]
 have h1:Le (table P L) (qP P):=(yB P P _).trans (jr _ (fun f x=>qo f _ _ _) L _)
 #h1 u u 0 h0
structure Least (L:bf ν)(P:List ν)(f:eU ν):Prop where
 is:∀ u v d,f u v=some d->Wk L u v d
 le:∀ u∈P,∀v t,Wk L u v t->∃ d,f u v=some d/\d<=t
&vi {P:List ν}{L:bf ν}{u:ν}{y:Int}(h:table P L u u=some y)(hy:y<0):¬ gy L:=fun n=>by
 have:=n u y (k8 P L u u y h)
 omega
&qO {P:List ν}{L:bf ν}(hL:∀ x∈L,x.1∈P/\x.2.1∈P)(h:∀ u∈P,∀y,table P L u u=some y->0<=y):gy L/\Least L P (table P L):=by
 have nc:¬ zc L:=fun⟨x,ms,s,hp,hn,_,hs⟩=>by
  &⟨y,e,l⟩:=qN hL x x ms s hp hn
  have:=h x (hp.ends hL).1 y e
  omega
 have le:∀ u∈P,∀v t,Wk L u v t->∃ d,table P L u v=some d/\d<=t:=fun u hu v t w=>by
  rcases w.simple with z | ⟨s',hs,z⟩
  ·#absurd z nc
  ·rcases z with⟨rfl,rfl⟩ | ⟨_,ms,hp,hn,_⟩
   ·&⟨y,e,l⟩:=lZ (L:=L) hu
    #⟨y,e,by omega⟩
   ·&⟨y,e,l⟩:=qN hL u v ms s' hp hn
    #⟨y,e,by omega⟩
 &⟨fun a s w=> ?_,fun u v d e=>k8 P L u v d e,le⟩
 by_cases ha:a∈P
 ·&⟨d,e,l⟩:=le a ha a s w
  have:=h a ha d e
  omega
 ·cases w with
  | nil=>#Int.le_refl _
  | step e _=>#absurd (hL _ e).1 ha
end Gr
namespace G
open PySem Tr Gr
structure N2 where
 c:Int
 k:Int
deriving DecidableEq
&N2.ext':∀ {u v:N2},u.c=v.c->u.k=v.k->u=v
 | ⟨_,_⟩,⟨_,_⟩,rfl,rfl=>rfl
def en (v:N2):T:=.tup [.int v.c,.int v.k]
def eB (x:N2×N2×Int):T:=.tup [en x.1,en x.2.1,.int x.2.2]
def eN (ks:List Nat):List T:=ks.map fun k=> .int (k:Nat)
def eW (x:Int×List Nat):T:=.tup [.int x.1,.lst (eN x.2)]
def ky (v:N2):List L2.Key:=[.inl v.c,.inl v.k]
&bq (v:N2):aV (en v)=some (ky v):=rfl
&hG {u v:N2}(h:some (ky u)=some (ky v)):u=v:=by
 injection h with h
 injection h with h1 h2
 injection h2 with h2 _
 injection h1 with h1
 injection h2 with h2
 #N2.ext' h1 h2
&en_inj {u v:N2}(h:en u=en v):u=v:=hG (by rw [<-bq u,<-bq v,h])
&qz (u v:N2):aZ (en u) (en v)=decide (u=v):=by
 #,en aZ beqTs aZ beqTs beqTs
 by_cases h:u=v
 ·subst h;simp [aZ]
 ·have:¬ (u.c=v.c/\u.k=v.k):=fun z=>h (N2.ext' z.1 z.2)
  simp [h,aZ]
  #fun z=>fun y=>this ⟨z,y⟩
&lR (g:N2->T)(v:N2):∀ (ns:List N2),lF (ns.map en) (ns.map g) (ky v)=if v∈ns then some (g v)else none
 | [] =>rfl
 | u::ns=>by
  rw [List.map_cons,List.map_cons,lF,bq]
  by_cases h:u=v
  ·subst h;rw [if_pos rfl,if_pos List.mem_cons_self]
  ·rw [if_neg (fun z=>h (hG z)),lR g v ns]
   have:(v∈u::ns)↔v∈ns:=by rw [List.mem_cons];#⟨fun z=>z.elim (fun y=>absurd y.symm h) id,.inr⟩
   simp only [this]
&nA (x:T)(v:N2)(g:N2->T):∀ (ns:List N2),v∉ns->gk (en v) x (ns.map en) (ns.map g)=(ns.map en++ [en v],ns.map g++ [x])
 | [],_=>rfl
 | u::ns,h=>by
  rw [List.mem_cons,not_or]at h
  rw [List.map_cons,List.map_cons,gk,bq,bq,if_neg (fun z=>h.1 (hG z).symm),nA x v g ns h.2]
  rfl
&qt (x:T)(v:N2)(g:N2->T):∀ (ns:List N2),ns.Nodup->v∈ns->gk (en v) x (ns.map en) (ns.map g)=(ns.map en,ns.map fun u=>if u=v then x else g u)
 | [],_,h=>by simp at h
 | u::ns,hn,h=>by
  rw [List.nodup_cons]at hn
  rw [List.map_cons,List.map_cons,List.map_cons,gk,bq,bq]
  by_cases z:u=v
  ·subst z
   rw [if_pos rfl,if_pos rfl]
   congr 2
   #List.map_congr_left fun w hw=>by rw [if_neg (fun(y:w=u)=>hn.1 (y▸hw))]
  ·rw [if_neg (fun y=>z (hG y)),if_neg z]
   have h':v∈ns:=(List.mem_cons.mp h).elim (fun y=>absurd y.symm z) id
   rw [qt x v g ns hn.2 h']
&jh {α:Type}[DecidableEq α]:∀ {l m:List α},l.Nodup->(∀x∈l,x∈m)->l.length<=m.length
 | [],_,_,_=>Nat.zero_le _
 | x::l,m,hn,h=>by
  rw [List.nodup_cons]at hn
  have hx:=h x List.mem_cons_self
  have:=jh (m:=m.erase x) hn.2 fun y hy=>(List.mem_erase_of_ne (fun(z:y=x)=>hn.1 (z▸hy))).mpr (h y (List.mem_cons_of_mem _ hy))
  rw [List.length_erase_of_mem hx]at this
  have:0<m.length:=List.length_pos_of_mem hx
  rw [List.length_cons];omega
def oW (o:Option (Int×List Nat)):T:=match o with
 | some x=>eW x
 | none=> .non
structure DR (P ns:List N2)(b:cu N2):Prop where
 nd:ns.Nodup
 mem:∀ v,v∈ns↔(b v).isSome=true
 sub:∀ v∈ns,v∈P
def dV (ns:List N2)(b:cu N2):List T:=ns.map fun v=>oW (b v)
&DR.get {P ns:List N2}{b:cu N2}(D:DR P ns b)(v:N2):lF (ns.map en) (dV ns b) (ky v)=(b v).map eW:=by
 #,dV
 rw [lR (fun v=>oW (b v))]
 have:=D.mem v
 cases q:b v with
 | none=>rw [q]at this;rw [if_neg (fun z=>by simpa using this.mp z)];rfl
 | some x=>rw [q]at this;rw [if_pos (this.mpr rfl)];rfl
&DR.put {P ns:List N2}{b:cu N2}(D:DR P ns b){v:N2}(hv:v∈P)(y:Int×List Nat):∃ ns',DR P ns' (Gr.put b v y)/\gk (en v) (eW y) (ns.map en) (dV ns b)=(ns'.map en,dV ns' (Gr.put b v y)):=by
 by_cases h:v∈ns
 ·&⟨ns,⟨D.nd,fun u=> ?_,D.sub⟩,?_⟩
  ·by_cases z:u=v
   ·subst z;rw [dY];#⟨fun _=>rfl,fun _=>h⟩
   ·rw [jN z];#D.mem u
  ·#,dV
   rw [qt _ _ _ _ D.nd h]
   congr 1
   &List.map_congr_left fun u _=> ?_
   by_cases z:u=v
   ·subst z;rw [if_pos rfl,dY];rfl
   ·rw [if_neg z,jN z]
 ·&⟨ns++ [v],⟨?_,fun u=> ?_,fun u hu=> ?_⟩,?_⟩
  ·#List.nodup_append.mpr ⟨D.nd,by simp,fun x hx y hy=>by simp at hy;subst hy;#fun z=>h (z▸hx)⟩
  ·rw [List.mem_append,List.mem_singleton]
   by_cases z:u=v
   ·subst z;rw [dY];#⟨fun _=>rfl,fun _=> .inr rfl⟩
   ·rw [jN z,<-D.mem u];#⟨fun w=>w.elim id fun y=>absurd y z,.inl⟩
  ·rcases List.mem_append.mp hu with w | w
   ·#D.sub u w
   ·rw [List.mem_singleton.mp w];#hv
  ·#,dV
   rw [nA _ _ _ _ h,List.map_append,List.map_append]
   congr 1
   congr 1
   ·&List.map_congr_left fun u hu=> ?_
    rw [jN (fun(z:u=v)=>h (z▸hu))]
   ·simp [dY,oW]
&yM {P ns:List N2}{b:cu N2}(D:DR P ns b)(x:N2×N2×Int)(d:Int)(w:List Nat) :
  dh [.dct (ns.map en) (dV ns b),eB x,eW (d,w)] = .ok (.bl (ee b x.2.1 (d+x.2.2))):=by
 &a8 rfl ?_
 show fy [.va (.dct (ns.map en) (dV ns b)),.va (eB x),.va (eW (d,w)),.em] =_
 #,fy
 have g:oD im (vr 0) (o2 aN (vr 1) (cn (.int 1))) [.va (.dct (ns.map en) (dV ns b)),.va (eB x),.va (eW (d,w)),.em] = .ok (oW (b x.2.1)):=by
  &k_oD (ks:=ns.map en) (vs:=dV ns b) (u:=en x.2.1) rfl rfl ?_
  #,im
  rw [bq]
  simp only [D.get]
  cases b x.2.1 <;> rfl
 rw [az (bJ (t:=oW (b x.2.1)) (ρ':=[.va (.dct (ns.map en) (dV ns b)),.va (eB x),.va (eW (d,w)),.va (oW (b x.2.1))]) g rfl)]
 &bA ?_
 #,ee
 cases q:b x.2.1 with
 | none=>#yb (au (t:=.non) (u:=.non) rfl rfl rfl)
 | some y=>#(yc (au (t:=eW y) (u:=.non) rfl rfl rfl)).trans (au (t:=.int (d+x.2.2)) (u:=.int y.1) rfl rfl rfl)
abbrev seF:En->Rs Fl:=(ax (bQ (ln 2 (oD im (vr 2) (o2 aN (vr 5) (cn (.int 0))))) (gN 6)) (ax (eI (kF (tb (o2 gf (vr 6) (cn .non))) (du (lnB 2 (tb (cl dh (ac (vr 2) (ac (vr 5) (ac (vr 6) ah)))))))) sCt sN) (ax (bQ (o2 aH (o2 aN (vr 6) (cn (.int 1))) (b7 (ac (vr 4) ah))) (gN 7)) (ax (bQ (dv (iS (vr 7)) [none,some 0] (gN 0) bT (o2 aN (o2 aN (vr 1) (vr 0)) (cn (.int 0)))) (gN 8)) (ax (eI (tb (o2 inT (o2 aN (vr 5) (cn (.int 1))) (vr 8))) (aL (aW (ac (cn .non) (ac (sl (vr 7) (pS (oL gt (vr 8) (o2 aN (vr 5) (cn (.int 1))))) pN) ah)))) sN) (ax (vo 2 (o2 aN (vr 5) (cn (.int 1))) (aW (ac (o2 aH (o2 aN (vr 6) (cn (.int 0))) (o2 aN (vr 5) (cn (.int 2)))) (ac (vr 7) ah)))) (bQ (cn (.bl true)) (gN 3))))))))
abbrev seG:T->En->Rs En:=gT 2 (dO (gN 4) (dO (gN 5) lm))
def eL (L:bf N2):T:=.lst (L.map eB)
def wQ (L:bf N2)(t:T):T:=match t with
 | .int j=>match L[j.toNat]? with
  | some x=>en x.1
  | none=> .non
 | _=> .non
&ur {L:bf N2}:∀ {ks:List Nat} {a b:N2},Ch L a ks b->(eN ks).map (wQ L)=(dS L ks).map en
 | [],_,_,_=>rfl
 | k::r,a,b,h=>by
  rw [h.pas_cons]
  &⟨c,m,e,h⟩:=h
  show wQ L (.int k)::(eN r).map (wQ L)=en a::(dS L r).map en
  rw [ur h]
  congr 1
  #,wQ
  simp only [Int.toNat_natCast,e]
&yU (v:N2):∀ (l:List N2),o9 (en v) (l.map en)=decide (v∈l)
 | [] =>rfl
 | u::l=>by
  have ih:=yU v l
  unfold o9 at ih ⊢
  rw [List.map_cons,List.any_cons,ih,qz]
  by_cases h:u=v
  ·subst h;simp
  ·have h':¬ v=u:=fun z=>h z.symm
   simp [h,h']
&rZ (v:N2):∀ (l:List N2) (n:Nat),v∈l->ju (en v) (l.map en) n=some (n+l.idxOf v)
 | [],n,h=>by simp at h
 | u::l,n,h=>by
  rw [List.map_cons,ju,qz,List.idxOf_cons]
  by_cases z:u=v
  ·subst z;simp
  ·have h':v∈l:=(List.mem_cons.mp h).elim (fun y=>absurd y.symm z) id
   have zb:(u == v)=false:=by rw [beq_eq_false_iff_ne];#z
   rw [zb,decide_eq_false z,if_neg Bool.false_ne_true,rZ v l (n+1) h']
   simp only [cond_false]
   congr 1
   omega
&nd_en (v:N2):(en v).nd=true:=rfl
&qe {α:Type}(f:α->T)(h:∀ a,(f a).nd=true):∀ l:List α,nds (l.map f)=true
 | [] =>rfl
 | a::l=>by rw [List.map_cons,nds,h a,qe f h l];rfl
&qu (v:N2):(en v).dep<=60:=by show(T.tup [.int v.c,.int v.k]).dep<=60;simp [T.dep,deps]
&in_en (v:N2)(l:List N2):inT (en v) (.lst (l.map en))= .ok (.bl (decide (v∈l))):=by
 show(if (_\/_)/\_/\(T.lst (l.map en)).nd=true then _ else _)=_
 rw [if_pos ⟨.inl (qu v),rfl,qe en nd_en l⟩,yU]
&yo (v:N2)(l:List N2)(h:v∈l):gt (.lst (l.map en)) (en v)= .ok (.int ((l.idxOf v:Nat):Int)):=by
 #,gt
 simp only
 rw [if_pos ⟨.inl (qu v),rfl,qe en nd_en l⟩,rZ v l 0 h,Nat.zero_add]
&eN_app (p q:List Nat):eN (p++q)=eN p++eN q:=by #,eN;rw [List.map_append]
&xO (D:Bool):∀ ks:List Nat,nks D (eN ks)=true
 | [] =>rfl
 | k::r=>by show nks D (.int k::eN r)=true;#,nks;rw [xO D r];rfl
&Ch.len {L:bf N2}{ks:List Nat}{a b:N2}(h:Ch L a ks b)(hn:(dS L ks).Nodup):ks.length<=L.length:=by
 have:=jh (h.nodup hn) (m:=List.range L.length) fun k hk=>List.mem_range.mpr (h.lt k hk)
 rwa [List.length_range]at this
def TurnP (L:bf N2)(P ns:List N2)(b:cu N2)(k:Nat)(x:N2×N2×Int)(st:T)(mv:Bool)(s6 s7 s8:Sl):Sum (Option (cu N2)) (List Nat)->Prop
 | .inl none=> ∃s6' s7' s8',seF [.va (eL L),.va st,.ow (.dct (ns.map en) (dV ns b)),.va (.bl mv),.va (.int k),.va (eB x),s6,s7,s8] = .ok (.ct [.va (eL L),.va st,.ow (.dct (ns.map en) (dV ns b)),.va (.bl mv),.va (.int k),.va (eB x),s6',s7',s8'])
 | .inl (some b')=> ∃ns' s6' s7' s8',DR P ns' b'/\seF [.va (eL L),.va st,.ow (.dct (ns.map en) (dV ns b)),.va (.bl mv),.va (.int k),.va (eB x),s6,s7,s8] = .ok (.nx [.va (eL L),.va st,.ow (.dct (ns'.map en) (dV ns' b')),.va (.bl true),.va (.int k),.va (eB x),s6',s7',s8'])
 | .inr q=>seF [.va (eL L),.va st,.ow (.dct (ns.map en) (dV ns b)),.va (.bl mv),.va (.int k),.va (eB x),s6,s7,s8] = .ok (.rt (.tup [.non,.lst (eN q)]))
&se_turn {L:bf N2}{S P ns:List N2}{b:cu N2}{k:Nat}{x:N2×N2×Int}(K:Kept L S b)(D:DR P ns b)(hL:L.length<=500)(hP:P.length<1000)(e:L[k]? =some x)(hx:x.2.1∈P)(st:T)(mv:Bool)(s6 s7 s8:Sl) :
  TurnP L P ns b k x st mv s6 s7 s8 (gM L b k x):=by
 &⟨a,c,m⟩:=x
 #,TurnP
 generalize hks:ns.map en=ks
 generalize hvs:dV ns b=vs
 have get:∀ s7 s8,ln 2 (oD im (vr 2) (o2 aN (vr 5) (cn (.int 0)))) [.va (eL L),.va st,.ow (.dct ks vs),.va (.bl mv),.va (.int k),.va (eB (a,c,m)),s6,s7,s8] = .ok (oW (b a)):=fun s7 s8=>by
  &k_ln (o:=.dct ks vs) rfl (k_oD (ks:=ks) (vs:=vs) (u:=en a) rfl rfl ?_) ?_
  ·#,im
   rw [bq,<-hks,<-hvs]
   simp only [D.get]
   cases b a <;> rfl
  ·cases b a with
   | none=>rfl
   | some y=>show nks true [.int y.1,.lst (eN y.2)] =true;simp [nks,T.nk,xO]
 have s1:∀ G,ax (bQ (ln 2 (oD im (vr 2) (o2 aN (vr 5) (cn (.int 0))))) (gN 6)) G [.va (eL L),.va st,.ow (.dct ks vs),.va (.bl mv),.va (.int k),.va (eB (a,c,m)),s6,s7,s8] =G [.va (eL L),.va st,.ow (.dct ks vs),.va (.bl mv),.va (.int k),.va (eB (a,c,m)),.va (oW (b a)),s7,s8]:=fun G=>
  az (bJ (t:=oW (b a)) (get s7 s8) rfl)
 cases qa:b a with
 | none=>
  rw [show gM L b k (a,c,m)= .inl none from by #,gM;simp only [qa]]
  simp only
  &⟨.va .non,s7,s8,?_⟩
  #,seF
  rw [s1,qa]
  #ya (bY (F:=sCt) (lj (aY (au (t:=.non) (u:=.non) rfl rfl rfl))))
 | some y=>
  &⟨d,w⟩:=y
  have bt:∀ s7 s8,lnB 2 (tb (cl dh (ac (vr 2) (ac (vr 5) (ac (vr 6) ah))))) [.va (eL L),.va st,.ow (.dct ks vs),.va (.bl mv),.va (.int k),.va (eB (a,c,m)),.va (eW (d,w)),s7,s8] = .ok (ee b c (d+m)):=fun s7 s8=>by
   &k_lnB (aY (aM (ts:=[.dct ks vs,eB (a,c,m),eW (d,w)]) rfl ?_))
   rw [<-hks,<-hvs]
   #yM D (a,c,m) d w
  have nn:tb (o2 gf (vr 6) (cn .non)) [.va (eL L),.va st,.ow (.dct ks vs),.va (.bl mv),.va (.int k),.va (eB (a,c,m)),.va (eW (d,w)),s7,s8] = .ok false:=aY (au (t:=eW (d,w)) (u:=.non) rfl rfl rfl)
  have cond:=gv nn (cR (bt s7 s8))
  have s1':∀ G,ax (bQ (ln 2 (oD im (vr 2) (o2 aN (vr 5) (cn (.int 0))))) (gN 6)) G [.va (eL L),.va st,.ow (.dct ks vs),.va (.bl mv),.va (.int k),.va (eB (a,c,m)),s6,s7,s8] =G [.va (eL L),.va st,.ow (.dct ks vs),.va (.bl mv),.va (.int k),.va (eB (a,c,m)),.va (eW (d,w)),s7,s8]:=fun G=>by rw [s1 G,qa];rfl
  cases hb:ee b c (d+m)with
  | false=>
   rw [show gM L b k (a,c,m)= .inl none from by #,gM;simp only [qa,hb];rfl]
   simp only
   rw [hb]at cond
   &⟨.va (eW (d,w)),s7,s8,?_⟩
   #,seF
   rw [s1']
   #ya (bY (F:=sCt) cond)
  | true=>
   rw [hb]at cond
   &⟨s,hs,h1,h2,h3,h4,h5⟩:=K.walk a d w qa
   have hch:Ch L s (w++ [k]) c:=h1.snoc e
   have hwl:w.length<=500:=Nat.le_trans (Ch.len h1 h4) hL
   have s2:∀ G,ax (eI (kF (tb (o2 gf (vr 6) (cn .non))) (du (lnB 2 (tb (cl dh (ac (vr 2) (ac (vr 5) (ac (vr 6) ah)))))))) sCt sN) G [.va (eL L),.va st,.ow (.dct ks vs),.va (.bl mv),.va (.int k),.va (eB (a,c,m)),.va (eW (d,w)),s7,s8] =G [.va (eL L),.va st,.ow (.dct ks vs),.va (.bl mv),.va (.int k),.va (eB (a,c,m)),.va (eW (d,w)),s7,s8]:=fun G=>
    az (ρ':=[.va (eL L),.va st,.ow (.dct ks vs),.va (.bl mv),.va (.int k),.va (eB (a,c,m)),.va (eW (d,w)),s7,s8]) ((cF (F:=sCt) (G:=sN) cond).trans rfl)
   have wk:o2 aH (o2 aN (vr 6) (cn (.int 1))) (b7 (ac (vr 4) ah)) [.va (eL L),.va st,.ow (.dct ks vs),.va (.bl mv),.va (.int k),.va (eB (a,c,m)),.va (eW (d,w)),s7,s8] = .ok (.lst (eN (w++ [k]))):=by
    &au (t:=.lst (eN w)) (u:=.lst (eN [k])) rfl (d9 (ts:=[.int k]) rfl (aw (k:=1) (by simp))) ?_
    show jH (eN w++eN [k])=_
    rw [<-eN_app]
    #,jH
    rw [if_pos (aw (k:=1000) (by #,eN;rw [List.length_map,List.length_append];simp;omega))]
   have s3:∀ G,ax (bQ (o2 aH (o2 aN (vr 6) (cn (.int 1))) (b7 (ac (vr 4) ah))) (gN 7)) G [.va (eL L),.va st,.ow (.dct ks vs),.va (.bl mv),.va (.int k),.va (eB (a,c,m)),.va (eW (d,w)),s7,s8] =G [.va (eL L),.va st,.ow (.dct ks vs),.va (.bl mv),.va (.int k),.va (eB (a,c,m)),.va (eW (d,w)),.va (.lst (eN (w++ [k]))),s8]:=fun G=>az (bJ wk rfl)
   have ps:dv (iS (vr 7)) [none,some 0] (gN 0) bT (o2 aN (o2 aN (vr 1) (vr 0)) (cn (.int 0))) [.va (eL L),.va st,.ow (.dct ks vs),.va (.bl mv),.va (.int k),.va (eB (a,c,m)),.va (eW (d,w)),.va (.lst (eN (w++ [k]))),s8] = .ok (.lst ((dS L (w++ [k])).map en)):=by
    rw [<-ur hch]
    &ng (ts:=eN (w++ [k])) (gQ rfl) (aw (k:=1000) (by #,eN;rw [List.length_map,List.length_append];simp;omega)) (by simp) fun t ht=> ?_
    unfold eN at ht
    &⟨j,hj,rfl⟩:=List.mem_map.mp ht
    have hjl:=hch.lt j hj
    &au (t:=eB L[j]) (u:=.int 0) (uM (l:=L.map eB) (n:=j) rfl rfl (by rw [List.getElem?_map,List.getElem?_eq_getElem hjl];rfl)) rfl ?_
    #,wQ
    simp only [Int.toNat_natCast,List.getElem?_eq_getElem hjl]
    rfl
   have s4:∀ G,ax (bQ (dv (iS (vr 7)) [none,some 0] (gN 0) bT (o2 aN (o2 aN (vr 1) (vr 0)) (cn (.int 0)))) (gN 8)) G [.va (eL L),.va st,.ow (.dct ks vs),.va (.bl mv),.va (.int k),.va (eB (a,c,m)),.va (eW (d,w)),.va (.lst (eN (w++ [k]))),s8] =G [.va (eL L),.va st,.ow (.dct ks vs),.va (.bl mv),.va (.int k),.va (eB (a,c,m)),.va (eW (d,w)),.va (.lst (eN (w++ [k]))),.va (.lst ((dS L (w++ [k])).map en))]:=fun G=>az (bJ ps rfl)
   have inn:tb (o2 inT (o2 aN (vr 5) (cn (.int 1))) (vr 8)) [.va (eL L),.va st,.ow (.dct ks vs),.va (.bl mv),.va (.int k),.va (eB (a,c,m)),.va (eW (d,w)),.va (.lst (eN (w++ [k]))),.va (.lst ((dS L (w++ [k])).map en))] = .ok (decide (c∈dS L (w++ [k]))):=
    aY (au (t:=en c) (u:=.lst ((dS L (w++ [k])).map en)) rfl rfl (in_en c _))
   by_cases hn:c∈dS L (w++ [k])
   ·rw [show gM L b k (a,c,m)= .inr ((w++ [k]).drop ((dS L (w++ [k])).idxOf c))from by #,gM;simp only [qa,hb,if_pos hn,if_true]]
    simp only
    #,seF
    rw [s1',s2,s3,s4]
    rw [decide_eq_true hn]at inn
    &cz ((bY inn).trans (bA ?_))
    have sle:sl (vr 7) (pS (oL gt (vr 8) (o2 aN (vr 5) (cn (.int 1))))) pN [.va (eL L),.va st,.ow (.dct ks vs),.va (.bl mv),.va (.int k),.va (eB (a,c,m)),.va (eW (d,w)),.va (.lst (eN (w++ [k]))),.va (.lst ((dS L (w++ [k])).map en))] = .ok (.lst (eN ((w++ [k]).drop ((dS L (w++ [k])).idxOf c)))):=by
     rw [x9 (l:=eN (w++ [k])) (lo:=some (((dS L (w++ [k])).idxOf c:Nat):Int)) (hi:=none) rfl (k_pS (k_oL (ks:=(dS L (w++ [k])).map en) (u:=en c) rfl rfl (yo c _ hn))) rfl,sy]
     #,eN
     rw [List.map_drop]
    #(cm (ts:=[.non,.lst (eN ((w++ [k]).drop ((dS L (w++ [k])).idxOf c)))]) (al rfl (al sle rfl)) (aw (k:=2) (by simp)))
   ·rw [show gM L b k (a,c,m)= .inl (some (Gr.put b c (d+m,w++ [k])))from by #,gM;simp only [qa,hb,if_neg hn,if_true]]
    simp only
    rw [decide_eq_false hn]at inn
    &⟨ns',D',hd⟩:=D.put hx (d+m,w++ [k])
    &⟨ns',.va (eW (d,w)),.va (.lst (eN (w++ [k]))),.va (.lst ((dS L (w++ [k])).map en)),D',?_⟩
    #,seF
    rw [s1',s2,s3,s4]
    rw [az (ρ':=[.va (eL L),.va st,.ow (.dct ks vs),.va (.bl mv),.va (.int k),.va (eB (a,c,m)),.va (eW (d,w)),.va (.lst (eN (w++ [k]))),.va (.lst ((dS L (w++ [k])).map en))]) ((cF (G:=sN) inn).trans rfl)]
    have pt:vo 2 (o2 aN (vr 5) (cn (.int 1))) (aW (ac (o2 aH (o2 aN (vr 6) (cn (.int 0))) (o2 aN (vr 5) (cn (.int 2)))) (ac (vr 7) ah))) [.va (eL L),.va st,.ow (.dct ks vs),.va (.bl mv),.va (.int k),.va (eB (a,c,m)),.va (eW (d,w)),.va (.lst (eN (w++ [k]))),.va (.lst ((dS L (w++ [k])).map en))]
      = .ok (.nx [.va (eL L),.va st,.ow (.dct (ns'.map en) (dV ns' (Gr.put b c (d+m,w++ [k])))),.va (.bl mv),.va (.int k),.va (eB (a,c,m)),.va (eW (d,w)),.va (.lst (eN (w++ [k]))),.va (.lst ((dS L (w++ [k])).map en))]):=by
     have ev:aW (ac (o2 aH (o2 aN (vr 6) (cn (.int 0))) (o2 aN (vr 5) (cn (.int 2)))) (ac (vr 7) ah)) [.va (eL L),.va st,.ow (.dct ks vs),.va (.bl mv),.va (.int k),.va (eB (a,c,m)),.va (eW (d,w)),.va (.lst (eN (w++ [k]))),.va (.lst ((dS L (w++ [k])).map en))] = .ok (eW (d+m,w++ [k])):=
      cm (ts:=[.int (d+m),.lst (eN (w++ [k]))]) rfl (aw (k:=2) (by simp))
     have ek:o2 aN (vr 5) (cn (.int 1)) [.va (eL L),.va st,.ow (.dct ks vs),.va (.bl mv),.va (.int k),.va (eB (a,c,m)),.va (eW (d,w)),.va (.lst (eN (w++ [k]))),.va (.lst ((dS L (w++ [k])).map en))] = .ok (en c):=rfl
     show(aW _ _ >>= fun v=>o2 aN (vr 5) (cn (.int 1)) _ >>= fun kk=>match aV kk with | some _=>if ks.length<1000 then Rs.ok (Fl.nx _)else .bad | none=> .bad)=_
     rw [ev,aD,ek,aD,bq]
     have hlen:ks.length<1000:=by rw [<-hks,List.length_map];#Nat.lt_of_le_of_lt (jh D.nd D.sub) hP
     simp only [if_pos hlen]
     have hd1:gk (en c) (eW (d+m,w++ [k])) ks vs=(ns'.map en,dV ns' (Gr.put b c (d+m,w++ [k]))):=by rw [<-hks,<-hvs];#hd
     rw [hd1]
     rfl
    rw [az pt]
    #bJ (t:=.bl true) rfl rfl
def wm (L:bf N2)(st:T)(ns:List N2)(b:cu N2)(mv:Bool)(s4 s5 s6 s7 s8:Sl):En:=[.va (eL L),.va st,.ow (.dct (ns.map en) (dV ns b)),.va (.bl mv),s4,s5,s6,s7,s8]
def yX (L:bf N2)(P:List N2)(st:T)(X:Rs Fl):Sum (cu N2×Bool) (List Nat)->Prop
 | .inr q=>X= .ok (.rt (.tup [.non,.lst (eN q)]))
 | .inl (b',mv')=> ∃ns' s4 s5 s6 s7 s8,DR P ns' b'/\X= .ok (.nx (wm L st ns' b' mv' s4 s5 s6 s7 s8))
&pz {L:bf N2}{S P:List N2}(hL:L.length<=500)(hP:P.length<1000)(hx:∀ x∈L,x.2.1∈P)(st:T):∀ (r:bf N2) (k:Nat) (b:cu N2) (mv:Bool) (ns:List N2) (s4 s5 s6 s7 s8:Sl),L.drop k=r->Kept L S b->DR P ns b →
  yX L P st (aX seG seF (cp k (r.map eB)) (wm L st ns b mv s4 s5 s6 s7 s8)) (ig L k r b mv)
 | [],k,b,mv,ns,s4,s5,s6,s7,s8,_,K,D=>⟨ns,s4,s5,s6,s7,s8,D,rfl⟩
 | x::r,k,b,mv,ns,s4,s5,s6,s7,s8,hr,K,D=>by
  have e:L[k]? =some x:=by
   have:=congrArg (·[0]?) hr
   simpa using this
  have hr':L.drop (k+1)=r:=by
   have:=congrArg (List.drop 1) hr
   simpa [List.drop_drop,Nat.add_comm]using this
  have tg:seG (.tup [.int k,eB x]) (wm L st ns b mv s4 s5 s6 s7 s8)= .ok [.va (eL L),.va st,.ow (.dct (ns.map en) (dV ns b)),.va (.bl mv),.va (.int k),.va (eB x),s6,s7,s8]:=rfl
  have tn:=se_turn K D hL hP e (hx x (List.mem_of_getElem? e)) st mv s6 s7 s8
  rw [ig,List.map_cons,cp]
  cases q:gM L b k x with
  | inr w=>
   rw [q]at tn
   simp only
   #,yX
   #qk tg tn
  | inl o=>
   rw [q]at tn
   cases o with
   | none=>
    &⟨s6',s7',s8',tn⟩:=tn
    simp only
    rw [k_loopc tg tn]
    #pz hL hP hx st r (k+1) b mv ns _ _ _ _ _ hr' K D
   | some b'=>
    &⟨ns',s6',s7',s8',D',tn⟩:=tn
    simp only
    rw [cX tg tn]
    &pz (S:=S) hL hP hx st r (k+1) b' true ns' _ _ _ _ _ hr' ?_ D'
    -- what is kept stays so
    &⟨a,c,m⟩:=x
    unfold gM at q
    cases qa:b a with
    | none=>simp only [qa]at q;cases q
    | some y=>
     &⟨d,w⟩:=y
     simp only [qa]at q
     split at q
     ·rename_i hb
      split at q
      ·cases q
      ·rename_i hn
       cases q
       #K.put e qa hb hn
     ·cases q
abbrev wF:En->Rs Fl:=ax (bQ (cn (.bl false)) (gN 3)) (dA (iE (ac (vr 0) ah)) seG seF)
def SetP (L:bf N2)(P:List N2)(st:T)(X:Rs Fl):Sum (cu N2) (List Nat)->Prop
 | .inr q=>X= .ok (.rt (.tup [.non,.lst (eN q)]))
 | .inl b'=> ∃ns' s4 s5 s6 s7 s8,DR P ns' b'/\X= .ok (.nx (wm L st ns' b' false s4 s5 s6 s7 s8))
&qW {L:bf N2}{S P:List N2}(hL:L.length<=500)(hP:P.length<1000)(hx:∀ x∈L,x.2.1∈P)(st:T):∀ (n:Nat) (b:cu N2) (ns:List N2) (s4 s5 s6 s7 s8:Sl) (r:Sum (cu N2) (List Nat)),Kept L S b->DR P ns b->Gr.settle L n b=some r →
  SetP L P st (bv (tb (vr 3)) wF (n+1) (wm L st ns b true s4 s5 s6 s7 s8)) r
 | 0,_,_,_,_,_,_,_,_,_,_,h=>by cases h
 | n+1,b,ns,s4,s5,s6,s7,s8,r,K,D,h=>by
  have sw:=pz hL hP hx st L 0 b false ns s4 s5 s6 s7 s8 rfl K D
  have ok:=iu (S:=S) L 0 b false rfl K
  have body:∀ X,aX seG seF (cp 0 (L.map eB)) (wm L st ns b false s4 s5 s6 s7 s8)= .ok X->wF (wm L st ns b true s4 s5 s6 s7 s8)= .ok X:=fun X hX=>by
   show ax _ _ _=_
   rw [az (ρ':=wm L st ns b false s4 s5 s6 s7 s8) (bJ (t:=.bl false) rfl rfl)]
   #dq (ts:=cp 0 (L.map eB)) (k_iEl rfl) hX
  have tt:tb (vr 3) (wm L st ns b true s4 s5 s6 s7 s8)= .ok true:=rfl
  rw [Gr.settle]at h
  revert sw ok h
  generalize ig L 0 L b false=R
  intro h sw ok
  cases R with
  | inr q=>
   simp only at h
   cases h
   #x8 tt (body _ sw)
  | inl p=>
   &⟨b',mv'⟩:=p
   &⟨ns',t4,t5,t6,t7,t8,D',sw⟩:=sw
   &⟨K',_⟩:=ok
   cases mv' with
   | true=>
    simp only at h
    have ih:=qW hL hP hx st n b' ns' t4 t5 t6 t7 t8 r K' D' h
    rw [m6 tt (body _ sw)]
    #ih
   | false=>
    simp only at h
    cases h
    &⟨ns',t4,t5,t6,t7,t8,D',?_⟩
    rw [m6 tt (body _ sw)]
    #m7 rfl
&gV {c:En->Rs Bool}{F:En->Rs Fl}{x:Fl}:∀ {n m:Nat} {ρ:En},n<=m->bv c F n ρ= .ok x->bv c F m ρ= .ok x
 | 0,_,_,_,h=>by cases h
 | n+1,0,_,hl,_=>absurd hl (by omega)
 | n+1,m+1,ρ,hl,h=>by
  unfold bv at h ⊢
  cases q:c ρ with
  | bad=>rw [q]at h;cases h
  | err _=>rw [q]at h;cases h
  | ok k=>
   rw [q]at h
   cases k with
   | false=>#h
   | true=>
    simp only at h ⊢
    cases q2:F ρ with
    | bad=>rw [q2]at h;cases h
    | err _=>rw [q2]at h;cases h
    | ok f=>
     rw [q2]at h
     cases f with
     | nx ρ'=>#gV (by omega) h
     | ct ρ'=>#gV (by omega) h
     | bk ρ'=>#h
     | rt t=>#h
&xp (w:T):∀ S:List N2,prs (S.map fun v=> .tup [en v,w])=some (S.map fun v=>(en v,w))
 | [] =>rfl
 | v::S=>by rw [List.map_cons,prs,bq,xp w S];rfl
&sf (w:T):∀ (S ns:List N2) (g:N2->T),(ns++S).Nodup->(∀v∈S,g v=w)->iY (S.map fun v=>(en v,w)) (ns.map en,ns.map g)=((ns++S).map en,(ns++S).map g)
 | [],ns,g,_,_=>by rw [List.append_nil];rfl
 | v::S,ns,g,hn,hg=>by
  have hv:v∉ns:=fun z=>by
   rw [List.nodup_append]at hn
   #hn.2.2 v z v List.mem_cons_self rfl
  rw [List.map_cons,iY,nA _ _ _ _ hv]
  have e1:ns.map en++ [en v] =(ns++ [v]).map en:=by rw [List.map_append];rfl
  have e2:ns.map g++ [w] =(ns++ [v]).map g:=by rw [List.map_append,<-hg v List.mem_cons_self];rfl
  rw [e1,e2,sf w S (ns++ [v]) g (by rw [List.append_assoc];#hn) fun u hu=>hg u (List.mem_cons_of_mem _ hu),List.append_assoc]
  rfl
&dict_en (w:T)(S:List N2)(hn:S.Nodup)(hl:S.length<=1000):uW [.lst (S.map fun v=> .tup [en v,w])] = .ok (.dct (S.map en) (S.map fun _=>w)):=by
 #,uW
 simp only [xp]
 rw [if_pos (by rw [List.length_map];#hl)]
 have:=sf w S [] (fun _=>w) (by simpa using hn) (fun _ _=>rfl)
 rw [List.nil_append]at this
 rw [show(([]:List T),([]:List T))=(([]:List N2).map en,([]:List N2).map fun _=>w)from rfl,this]
def eS (S:List N2):T:=.lst (S.map en)
def SettleP (L:bf N2)(P:List N2)(X:Rs T):Sum (cu N2) (List Nat)->Prop
 | .inr q=>X= .ok (.tup [.non,.lst (eN q)])
 | .inl b'=> ∃ns',DR P ns' b'/\X= .ok (.tup [.dct (ns'.map en) (dV ns' b'),.non])
structure wj (L:bf N2)(P:List N2):Prop where
 len:L.length<=500
 size:size L<=100000000
 ends:∀ x∈L,x.1∈P/\x.2.1∈P
 pl:P.length<1000
def SOk (L:bf N2)(S:List N2):Sum (cu N2) (List Nat)->Prop
 | .inr q=>Bar L q
 | .inl b'=>Settled L S b'
&yF {L:bf N2}{S P:List N2}(F:wj L P)(hS:S.Nodup)(hSP:∀ v∈S,v∈P):∃ r,SettleP L P (d6 [eL L,eS S]) r/\SOk L S r:=by
 have bound:L.length*(2*size L+1)<1000000000000 - 1:=by
  have h1:=F.len
  have h2:=F.size
  have:L.length*(2*size L+1)<=500*(2*100000000+1):=Nat.mul_le_mul h1 (by omega)
  omega
 &⟨r,hr,ok⟩:=sR L S bound
 have ok':SOk L S r:=by cases r <;> #ok
 &⟨r,?_,ok'⟩
 have hSl:S.length<=1000:=Nat.le_trans (jh hS hSP) (by have:=F.pl;omega)
 have D0:DR P S (Gr.start S):=⟨hS,fun v=>by #,Gr.start;by_cases h:v∈S <;> simp [h],hSP⟩
 have dv0:dV S (Gr.start S)=S.map fun _=>eW (0,[]):=List.map_congr_left fun v hv=>by #,Gr.start;rw [if_pos hv];rfl
 have w:=qW F.len F.pl (fun x hx=>(F.ends x hx).2) (eS S) _ (Gr.start S) S .em .em .em .em .em r (m5 L S) D0 hr
 have lc:dv (iS (vr 1)) [none] (gN 0) bT (aW (ac (vr 0) (ac (aW (ac (cn (.int 0)) (ac (b7 ah) ah))) ah))) [.va (eL L),.va (eS S),.em,.em,.em,.em,.em,.em,.em] = .ok (.lst (S.map fun v=> .tup [en v,eW (0,[])])):=by
  have:=ng (fi:=iS (vr 1)) (src:=[none]) (fe:=aW (ac (vr 0) (ac (aW (ac (cn (.int 0)) (ac (b7 ah) ah))) ah))) (h:=fun t=> .tup [t,eW (0,[])]) (ρ:=[.va (eL L),.va (eS S),.em,.em,.em,.em,.em,.em,.em]) (ts:=S.map en) (gQ rfl) (aw (k:=1000) (by rw [List.length_map];#hSl)) (by simp) fun t _=>
   cm (ts:=[t,eW (0,[])]) (al rfl (al (cm (ts:=[.int 0,.lst []]) (al rfl (al (d9 (ts:=[]) rfl (Nat.zero_le _)) rfl)) (aw (k:=2) (by simp))) rfl)) (aw (k:=2) (by simp))
  rw [this,List.map_map];rfl
 have n0:oC 2 (dv (iS (vr 1)) [none] (gN 0) bT (aW (ac (vr 0) (ac (aW (ac (cn (.int 0)) (ac (b7 ah) ah))) ah)))) [.va (eL L),.va (eS S),.em,.em,.em,.em,.em,.em,.em] = .ok (.nx [.va (eL L),.va (eS S),.ow (.dct (S.map en) (dV S (Gr.start S))),.em,.em,.em,.em,.em,.em]):=by
  #,oC
  rw [lc,aD,dict_en _ S hS hSl,aD,dv0]
  rfl
 have main:∀ G X,bv (tb (vr 3)) wF FU (wm L (eS S) S (Gr.start S) true .em .em .em .em .em)= .ok X->gh [.va (eL L),.va (eS S),.em,.em,.em,.em,.em,.em,.em] =G->(ax (bv (tb (vr 3)) wF FU) (lx 2 (aL (aW (ac (vr 2) (ac (cn .non) ah)))))) (wm L (eS S) S (Gr.start S) true .em .em .em .em .em)=G:=fun G X _ h=>by
  rw [<-h]
  #,gh
  rw [az n0,az (ρ':=wm L (eS S) S (Gr.start S) true .em .em .em .em .em) (bJ (t:=.bl true) rfl rfl)]
 cases r with
 | inr q=>
  have w':=gV (m:=FU) (by #,FU;omega) w
  &a8 rfl ?_
  show gh [.va (eL L),.va (eS S),.em,.em,.em,.em,.em,.em,.em] =_
  rw [<-main _ _ w' rfl]
  #cz w'
 | inl b'=>
  &⟨ns',s4,s5,s6,s7,s8,D',w⟩:=w
  have w':=gV (m:=FU) (by #,FU;omega) w
  &⟨ns',D',a8 rfl ?_⟩
  show gh [.va (eL L),.va (eS S),.em,.em,.em,.em,.em,.em,.em] =_
  rw [<-main _ _ w' rfl,az w']
  #yh (bA (cm (ts:=[.dct (ns'.map en) (dV ns' b'),.non]) rfl (aw (k:=2) (by simp))))
&kr {α:Type}{f:α->T}{p:α->Prop}:∀ {l:List T},(∀t∈l,∃x,t=f x/\p x)->∃ L:List α,l=L.map f/\∀ x∈L,p x
 | [],_=>⟨[],rfl,fun _ h=>nomatch h⟩
 | t::l,h=>by
  &⟨x,e,hx⟩:=h t List.mem_cons_self
  &⟨L,e2,h2⟩:=kr (l:=l) fun u hu=>h u (List.mem_cons_of_mem _ hu)
  #⟨x::L,by rw [e,e2];rfl,fun y hy=>(List.mem_cons.mp hy).elim (fun z=>z▸hx) (h2 y)⟩
&tS {t:T}(h:bF t=true):∃ (x y:Int) (r:List Int),t= .tup [.int x,.int y,.tup (r.map .int)]/\(0<=x/\x<=9)/\(0<=y/\y<=9)/\∀ k,0<=r.getD k 0/\r.getD k 0<=99:=by
 &⟨x,y,r,rfl,h1,h2,h3,h4⟩:=hZ h
 &⟨x,y,r,rfl,h1,h2,fun k=> ?_⟩
 have h':(n5 (.int x) (.int y)&&c8 (.tup (r.map .int)))=true:=h
 rw [Bool.and_eq_true]at h'
 have hr:=h'.2
 unfold c8 at hr
 rw [Bool.and_eq_true]at hr
 have hr2:(((r.map T.int).all fun u=>aQ u 0 99)&&(match km (r.map .int)with | some m=>nR m | none=>false))=true:=hr.2
 rw [Bool.and_eq_true]at hr2
 by_cases hk:k<r.length
 ·have:=List.all_eq_true.mp hr2.1 (.int r[k]) (List.mem_map.mpr ⟨_,List.getElem_mem hk,rfl⟩)
  &⟨i,e,a,b⟩:=da this
  cases e
  simp [hk]
  #⟨a,b⟩
 ·simp [hk]
&uu {cs:List T}{i:Nat}:∀ {cs0:List T} {c k:Nat},i<=c->c<i+cs0.length->k<rdN (cs0.getD (c - i) .non)->T.tup [.int c,.int k] ∈ft i cs0:=by
 intro cs0
 induction cs0 generalizing i with
 | nil=>intro c k h1 h2;simp at h2;omega
 | cons a r ih=>
  intro c k h1 h2 h3
  rw [ft,List.mem_append]
  by_cases e:c=i
  ·subst e
   rw [Nat.sub_self]at h3
   have h3':k<rdN a:=h3
   #.inl (List.mem_map.mpr ⟨.int k,uv h3',rfl⟩)
  ·&.inr (ih (by omega) (by rw [List.length_cons]at h2;omega) ?_)
   rw [show c - i=(c - (i+1))+1 by omega]at h3
   #h3
&oV {cs:List T}{t:T}(h:bo cs t=true):t∈ft 0 cs:=by
 &⟨c,k,rfl⟩:=fw h
 unfold bo at h
 simp only [Bool.and_eq_true,decide_eq_true_eq]at h
 &⟨⟨h1,h2⟩,h3,h4⟩:=h
 &⟨c,rfl⟩:=Int.eq_ofNat_of_zero_le h1
 &⟨k,rfl⟩:=Int.eq_ofNat_of_zero_le h3
 rw [oE]at h4
 #uu (cs:=cs) (Nat.zero_le _) (by omega) (by rw [Nat.sub_zero];omega)
&yD {cs:List T}{t:T}(h:t∈ft 0 cs):∃ v:N2,t=en v/\True:=by
 &⟨c,k,rfl,_⟩:=lM cs 0 h
 #⟨⟨c,k⟩,rfl,trivial⟩
def big (x:N2×N2×Int):Prop:=x.2.2.natAbs<=999
&oG {a b:Int}(ha : -99<=a/\a<=99)(hb:0<=b/\b<=9):(a*b).natAbs<=999:=by
 rw [Int.natAbs_mul]
 have h1:a.natAbs<=99:=by omega
 have h2:b.natAbs<=9:=by omega
 #Nat.le_trans (Nat.mul_le_mul h1 h2) (by decide)
&bC_eb {cs0:List T}:∀ {cs:List T} {i:Nat},(∀c∈cs,bF c=true)->(∀c k:Nat,i<=c->c<i+cs.length->k<rdN (cs.getD (c - i) .non)->T.tup [.int c,.int k] ∈ft 0 cs0) →
  ∀t∈bC i cs,∃x,t=eB x/\(en x.1∈ft 0 cs0/\en x.2.1∈ft 0 cs0/\big x)
 | [],_,_,_,t,h=>by simp [bC]at h
 | c::cs,i,hc,hm,t,h=>by
  rw [bC,List.mem_append]at h
  rcases h with h | h
  ·&⟨x,y,r,rfl,hx,hy,hr⟩:=tS (hc c List.mem_cons_self)
   have hm0:∀ k,k<r.length->T.tup [.int i,.int k] ∈ft 0 cs0:=fun k hk=>hm i k (Nat.le_refl _) (by simp) (by rw [Nat.sub_self];show k<(r.map T.int).length;rw [List.length_map];#hk)
   rw [oq]at h
   unfold cB at h
   &⟨k,hk,hp⟩:=List.mem_flatMap.mp h
   have hk:=List.mem_range.mp hk
   have d : -99<=dr r k/\dr r k<=99:=by have:=hr k;have:=hr (k+1);#,dr;omega
   unfold pr at hp
   simp only [List.mem_cons,List.not_mem_nil,or_false]at hp
   rcases hp with rfl | rfl
   ·#⟨(⟨i,k⟩,⟨i,((k+1:Nat):Int)⟩,dr r k*y),rfl,hm0 k (by omega),hm0 (k+1) (by omega),oG d hy⟩
   ·#⟨(⟨i,((k+1:Nat):Int)⟩,⟨i,k⟩,-dr r k*x),rfl,hm0 (k+1) (by omega),hm0 k (by omega),oG (by omega) hx⟩
  ·#bC_eb (cs:=cs) (i:=i+1) (fun c h=>hc c (List.mem_cons_of_mem _ h)) (fun c k h1 h2 h3=>hm c k (by omega) (by rw [List.length_cons];omega) (by rw [show c - i=(c - (i+1))+1 by omega];#h3)) t h
&lB_eb {cs:List T}{u:T}(hu:bK cs u=true):∀ t∈lB u,∃x,t=eB x/\(en x.1∈ft 0 cs/\en x.2.1∈ft 0 cs/\big x):=by
 intro t ht
 &⟨a,b,x,y,rfl,hd,ha,hb,_⟩:=kt hu
 have ma:=oV ha
 have mb:=oV hb
 &⟨va,rfl,_⟩:=yD ma
 &⟨vb,rfl,_⟩:=yD mb
 unfold e9 at hd
 rw [Bool.and_eq_true]at hd
 &⟨i,rfl,i1,i2⟩:=da hd.1
 have e2:lB (.tup [en va,en vb,.int i,y])= .tup [en vb,en va,.int (-i)] ::(if y.isN then []else [.tup [en va,en vb,y]]):=rfl
 rw [e2]at ht
 rcases List.mem_cons.mp ht with rfl | ht
 ·#⟨(vb,va,-i),rfl,mb,ma,by #,big;simp only;omega⟩
 ·cases q:y.isN with
  | true=>rw [q]at ht;simp at ht
  | false=>
   rw [q]at ht
   have ht:t= .tup [en va,en vb,y]:=by simpa using ht
   have hw:aQ y i 999=true:=by
    cases y with
    | non=>cases q
    | _=>#hd.2
   &⟨j,rfl,j1,j2⟩:=da hw
   #⟨(va,vb,j),ht,ma,mb,by #,big;simp only;omega⟩
structure Rd (cs ls:List T)(L:bf N2)(P:List N2):Prop where
 g:Good cs ls
 b:bds cs ls=L.map eB
 e:ft 0 cs=P.map en
 f:wj L P
 nd:P.Nodup
 pl:P.length<=16
 ll:L.length<=60
 bg:∀ x∈L,big x
&uc {L:bf N2}(h:∀ x∈L,big x):size L<=999*L.length:=by
 #,size
 induction L with
 | nil=>simp
 | cons x L ih=>
  rw [List.map_cons,List.sum_cons,List.length_cons]
  have:=ih fun y hy=>h y (List.mem_cons_of_mem _ hy)
  have:=h x List.mem_cons_self
  unfold big at this
  omega
&xM {P:List N2}(h:(P.map en).Nodup):P.Nodup:=by
 induction P with
 | nil=>#List.nodup_nil
 | cons a r ih=>
  rw [List.map_cons,List.nodup_cons]at h
  #List.nodup_cons.mpr ⟨fun z=>h.1 (List.mem_map.mpr ⟨a,z,rfl⟩),ih h.2⟩
&uf {cs ls:List T}(g:Good cs ls):∃ L P,Rd cs ls L P:=by
 &⟨hc,c1,c4⟩:=dk g.c
 &⟨P,eP,_⟩:=kr (f:=en) (p:=fun _=>True) (l:=ft 0 cs) fun t ht=>yD ht
 have key:∀ t∈bds cs ls,∃x,t=eB x/\(en x.1∈ft 0 cs/\en x.2.1∈ft 0 cs/\big x):=fun t ht=>by
  unfold bds at ht
  rw [List.mem_append]at ht
  rcases ht with h | h
  ·#bC_eb hc (fun c k h1 h2 h3=>uu (cs:=cs) h1 h2 h3) t h
  ·&⟨u,hu,h⟩:=List.mem_flatMap.mp h
   #lB_eb (g.l u hu) t h
 &⟨L,eL,hL⟩:=kr key
 have mem:∀ v:N2,en v∈ft 0 cs->v∈P:=fun v hv=>by
  rw [eP]at hv
  &⟨u,hu,e⟩:=List.mem_map.mp hv
  rw [<-en_inj e];#hu
 have hl:=bds_len g
 rw [eL,List.length_map]at hl
 have hp:=qr cs 0 hc
 rw [eP,List.length_map]at hp
 have hs:=uc fun x hx=>(hL x hx).2.2
 #⟨L,P,g,eL,eP,⟨by omega,by omega,fun x hx=>⟨mem _ (hL x hx).1,mem _ (hL x hx).2.1⟩,by omega⟩,xM (eP▸kM cs 0),by omega,hl,fun x hx=>(hL x hx).2.2⟩
def isLst:T->Bool
 | .lst _=>true
 | _=>false
&e_isL (t:T)(h:t.pl=true):nS "list" t= .ok (.bl (isLst t)):=by
 cases t <;> first | rfl | (simp [T.pl]at h;done)
def iJ (n:Nat)(t:T):Bool:=match t with
 | .lst l=>l.all fun u=>aQ u 0 ((n:Int) - 1)
 | _=>false
&pO {l:List T}:(T.lst l).pl=plS l:=by #,T.pl;rfl
&kX (L:bf N2)(t:T)(h:t.pl=true)(hl:∀ l,t= .lst l->l.length<=1000):cx [eL L,t] = .ok (.bl (iJ L.length t)):=by
 &a8 rfl ?_
 show dF [.va (eL L),.va t] =_
 #,dF
 &bA ?_
 cases q:isLst t with
 | false=>
  rw [jo (om (t:=t) rfl (by rw [e_isL t h,q]))]
  cases t <;> first | rfl | cases q
 | true=>
  cases t with
  | lst l=>
   &(gF (om (t:=.lst l) rfl rfl)).trans ?_
   &(aM (ts:=[.lst (l.map fun u=> .bl (aQ u 0 ((L.length:Int) - 1)))]) (al ?_ rfl) (all_map _ _))
   &ng (ts:=l) (gQ rfl) (aw (hl l rfl) (by omega)) (by simp) fun u hu=> ?_
   &aM (ts:=[u,.int 0,.int ((L.length:Int) - 1)]) (al rfl (al rfl (al (au (t:=.int (L.length:Int)) (u:=.int 1) (aM (ts:=[eL L]) rfl ?_) rfl rfl) rfl))) (fx _ _ _ (gX (pO▸h) hu))
   show Rs.ok (T.int ((L.map eB).length:Nat))=_
   rw [List.length_map]
  | _=>cases q
&lK {n:Nat}{t:T}(h:iJ n t=true):∃ ks:List Nat,t= .lst (eN ks)/\∀ k∈ks,k<n:=by
 cases t with
 | lst l=>
  have h:(l.all fun u=>aQ u 0 ((n:Int) - 1))=true:=h
  &⟨ks,e,hk⟩:=kr (f:=fun k:Nat=>T.int (k:Nat)) (p:=fun k=>k<n) (l:=l) fun u hu=>by
   &⟨i,rfl,a,b⟩:=da (List.all_eq_true.mp h u hu)
   &⟨k,rfl⟩:=Int.eq_ofNat_of_zero_le a
   #⟨k,rfl,by omega⟩
  #⟨ks,by rw [e];rfl,hk⟩
 | _=>cases h
&mL {n:Nat}{ks:List Nat}(h:∀ k∈ks,k<n):iJ n (.lst (eN ks))=true:=by
 show((eN ks).all fun u=>aQ u 0 ((n:Int) - 1))=true
 rw [List.all_eq_true]
 intro u hu
 &⟨k,hk,rfl⟩:=List.mem_map.mp hu
 have:=h k hk
 #,aQ
 simp;omega
def run (L:bf N2):N2->List Nat->Option N2
 | a,[] =>some a
 | a,k::r=>match L[k]? with
  | some x=>if x.1=a then run L x.2.1 r else none
  | none=>none
&run_ch {L:bf N2}:∀ {ks:List Nat} {a b:N2},run L a ks=some b↔Ch L a ks b
 | [],a,b=>by #,run Ch;#⟨fun h=>Option.some.inj h,fun h=>by rw [h]⟩
 | k::r,a,b=>by
  #,run Ch
  cases q:L[k]? with
  | none=>simp
  | some x=>
   &⟨u,v,m⟩:=x
   simp only
   by_cases h:u=a
   ·subst h
    rw [if_pos rfl,run_ch]
    #⟨fun z=>⟨v,m,rfl,z⟩,fun⟨c,m',e,z⟩=>by cases e;#z⟩
   ·rw [if_neg h]
    #⟨fun z=>(by cases z),fun⟨c,m',e,z⟩=>by cases e;#absurd rfl h⟩
&ne_en (u v:N2):lz (en u) (en v)= .ok (.bl (!decide (u=v))):=by
 #,lz
 rw [if_pos (fq (qu u) rfl rfl),qz]
&eq_en (u v:N2):il (en u) (en v)= .ok (.bl (decide (u=v))):=by
 #,il
 rw [if_pos (fq (qu u) rfl rfl),qz]
&nL {L:bf N2}{k:Nat}{x:N2×N2×Int}{f g:En->Rs T}{ρ:En}(hf:f ρ= .ok (eL L))(hg:g ρ= .ok (.int (k:Nat)))(e:L[k]? =some x):o2 aN f g ρ= .ok (eB x):=
 uM (l:=L.map eB) hf hg (by rw [List.getElem?_map,e];rfl)
abbrev ldF:En->Rs Fl:=(ax (eI (tb (o2 lz (o2 aN (o2 aN (vr 0) (vr 5)) (cn (.int 0))) (vr 4))) (aL (cn (.bl false))) sN) (bQ (o2 aN (o2 aN (vr 0) (vr 5)) (cn (.int 1))) (gN 4)))
abbrev ldE (L:bf N2)(s1 s2 s3:Sl)(a:N2)(s5:Sl):En:=[.va (eL L),s1,s2,s3,.va (en a),s5]
&uF (L:bf N2)(s1 s2 s3:Sl):∀ (ks:List Nat) (a:N2) (s5:Sl),(∀k∈ks,k<L.length)->match run L a ks with
  | some c=> ∃s5',aX (gN 5) ldF (eN ks) (ldE L s1 s2 s3 a s5)= .ok (.nx (ldE L s1 s2 s3 c s5'))
  | none=>aX (gN 5) ldF (eN ks) (ldE L s1 s2 s3 a s5)= .ok (.rt (.bl false))
 | [],a,s5,_=>⟨s5,rfl⟩
 | k::ks,a,s5,h=>by
  have hk:=h k List.mem_cons_self
  have e:L[k]? =some L[k]:=List.getElem?_eq_getElem hk
  #,run
  rw [e]
  simp only
  have c1:tb (o2 lz (o2 aN (o2 aN (vr 0) (vr 5)) (cn (.int 0))) (vr 4)) (ldE L s1 s2 s3 a (.va (.int (k:Nat))))= .ok (!decide (L[k].1=a)):=
   aY (au (t:=en L[k].1) (u:=en a) (au (t:=eB L[k]) (u:=.int 0) (nL rfl rfl e) rfl rfl) rfl (ne_en _ _))
  by_cases q:L[k].1=a
  ·rw [if_pos q]
   have ih:=uF L s1 s2 s3 ks L[k].2.1 (.va (.int (k:Nat))) fun j hj=>h j (List.mem_cons_of_mem _ hj)
   have st:ldF (ldE L s1 s2 s3 a (.va (.int (k:Nat))))= .ok (.nx (ldE L s1 s2 s3 L[k].2.1 (.va (.int (k:Nat))))):=by
    rw [decide_eq_true q]at c1
    &(az (ρ':=ldE L s1 s2 s3 a (.va (.int (k:Nat)))) ((cF c1).trans rfl)).trans ?_
    #bJ (t:=en L[k].2.1) (au (t:=eB L[k]) (u:=.int 1) (nL rfl rfl e) rfl rfl) rfl
   show match run L L[k].2.1 ks with
    | some c=> ∃s5',aX (gN 5) ldF (.int (k:Nat)::eN ks) _=_
    | none=>aX (gN 5) ldF (.int (k:Nat)::eN ks) _=_
   rw [cX (ρ1:=ldE L s1 s2 s3 a (.va (.int (k:Nat)))) rfl st]
   #ih
  ·rw [if_neg q]
   rw [decide_eq_false q]at c1
   #qk (ρ1:=ldE L s1 s2 s3 a (.va (.int (k:Nat)))) rfl (cz ((bY c1).trans rfl))
&e_leads {L:bf N2}{a b:N2}{t:T}(h:t.pl=true)(hl:∀ l,t= .lst l->l.length<=1000):(iJ L.length t=false/\kq [eL L,en a,en b,t] = .ok (.bl false)) ∨
  ∃ks,t= .lst (eN ks)/\(∀k∈ks,k<L.length)/\kq [eL L,en a,en b,t] = .ok (.bl (decide (run L a ks=some b))):=by
 cases q:iJ L.length t with
 | false=>
  &.inl ⟨rfl,a8 rfl ?_⟩
  show ie [.va (eL L),.va (en a),.va (en b),.va t,.em,.em] =_
  #,ie
  #cz ((bY (cR (k:=false) (aY (aM (ts:=[eL L,t]) rfl (by rw [kX L t h hl,q]))))).trans rfl)
 | true=>
  &⟨ks,rfl,hk⟩:=lK q
  &.inr ⟨ks,rfl,hk,a8 rfl ?_⟩
  show ie [.va (eL L),.va (en a),.va (en b),.va (.lst (eN ks)),.em,.em] =_
  #,ie
  rw [az (ρ':=[.va (eL L),.va (en a),.va (en b),.va (.lst (eN ks)),.em,.em]) ((cF (cR (k:=true) (aY (aM (ts:=[eL L,.lst (eN ks)]) rfl (by rw [kX L _ h hl,q]))))).trans rfl)]
  rw [az (ρ':=ldE L (.va (en a)) (.va (en b)) (.va (.lst (eN ks))) a .em) (bJ (t:=en a) rfl rfl)]
  have lo:=uF L (.va (en a)) (.va (en b)) (.va (.lst (eN ks))) ks a .em hk
  cases r:run L a ks with
  | none=>
   rw [r]at lo
   rw [cz (dq (ts:=eN ks) (gQ rfl) lo)];rfl
  | some c=>
   rw [r]at lo
   &⟨s5,lo⟩:=lo
   rw [az (dq (ts:=eN ks) (gQ rfl) lo)]
   &bA ((au (t:=en c) (u:=en b) rfl rfl (eq_en c b)).trans ?_)
   simp
&fM (f:Nat->Int):∀ ks:List Nat,gP (ks.map fun k=>T.int (f k))=some (ks.map f)
 | [] =>rfl
 | k::ks=>by rw [List.map_cons,gP,fM f ks];rfl
&nF (L:bf N2):∀ ks:List Nat,(ks.map (most L)).sum=aO L ks
 | [] =>rfl
 | k::ks=>by rw [List.map_cons,List.sum_cons,nF L ks];rfl
&yE {L:bf N2}{ks:List Nat}(hk:∀ k∈ks,k<L.length)(hl:ks.length<=1000):dZ [eL L,.lst (eN ks)] = .ok (.int (aO L ks)):=by
 &a8 rfl ?_
 show i7 [.va (eL L),.va (.lst (eN ks))] =_
 #,i7
 have e:dv (iS (vr 1)) [none,some 0] (gN 0) bT (o2 aN (o2 aN (vr 1) (vr 0)) (cn (.int 2))) [.va (eL L),.va (.lst (eN ks))] = .ok (.lst ((eN ks).map fun t=>match t with | .int i=> .int (most L i.toNat) | _=> .non)):=
  ng (ts:=eN ks) (gQ rfl) (aw (by #,eN;rw [List.length_map];#hl) (by omega)) (by simp) fun t ht=>by
   &⟨k,h,rfl⟩:=List.mem_map.mp ht
   have h:=hk k h
   have e:L[k]? =some L[k]:=List.getElem?_eq_getElem h
   &(au (t:=eB L[k]) (u:=.int 2) (nL rfl rfl e) rfl rfl).trans ?_
   show Rs.ok (T.int L[k].2.2)= .ok (.int (most L (k:Int).toNat))
   rw [Int.toNat_natCast,most,e]
 &bA (aM (al e rfl) ?_)
 have:((eN ks).map fun t=>match t with | .int i=>T.int (most L i.toNat) | _=> .non)=ks.map fun k=>T.int (most L k):=by
  #,eN
  rw [List.map_map]
  #List.map_congr_left fun k _=>by show T.int (most L (k:Int).toNat)=_;rw [Int.toNat_natCast]
 rw [this]
 show(match gP (ks.map fun k=>T.int (most L k))with | some ns=>Rs.ok (T.int ns.sum) | none=> .bad)=_
 rw [fM]
 show Rs.ok (T.int (ks.map (most L)).sum)=_
 rw [nF]
def vO (t:T):List Nat:=match t with
 | .lst l=>l.map fun u=>match u with | .int i=>i.toNat | _=>0
 | _=> []
&jn (ks:List Nat):vO (.lst (eN ks))=ks:=by
 show(eN ks).map _=ks
 #,eN
 rw [List.map_map]
 have:∀ l:List Nat,l.map ((fun u=>match u with | T.int i=>i.toNat | _=>0)∘fun k:Nat=>T.int (k:Nat))=l:=by
  intro l
  induction l with
  | nil=>rfl
  | cons a l ih=>rw [List.map_cons,ih];rfl
 #this ks
section
variable {cs ls:List T}{L:bf N2}{P:List N2}
&Rd.bounds (R:Rd cs ls L P):dD [.tup [.tup cs,.tup ls]] = .ok (eL L):=by rw [yL R.g,R.b];rfl
end
&tp (L:bf N2){f:En->Rs T}{ρ:En}(h:f ρ= .ok (eL L)):cl bL (ac f ah) ρ= .ok (.int (L.length:Nat)):=aM (ts:=[eL L]) (al h rfl) (by show Rs.ok (T.int ((L.map eB).length:Nat))=_;rw [List.length_map])
section
variable {cs ls:List T}{L:bf N2}{P:List N2}
&Rd.events (R:Rd cs ls L P):iN [.tup [.tup cs,.tup ls]] = .ok (eS P):=by rw [xF R.g,R.e];rfl
end
def oI (o:Option Int):T:=match o with
 | some x=> .int x
 | none=> .non
def fF (P:List N2)(f:eU N2):List (List T×List T):=P.map fun u=>(P.map en,P.map fun v=>oI (f u v))
def nV (P:List N2)(f:eU N2):T:=.dct (P.map en) (P.map fun u=> .dct (P.map en) (P.map fun v=>oI (f u v)))
abbrev gW (P:List N2)(L:bf N2)(f:eU N2)(s3 s4 s5 s6 s7:Sl):En:=[.va (eS P),.va (eL L),.ow (.dd (P.map en) (fF P f)),s3,s4,s5,s6,s7]
abbrev tbV (P:List N2)(L:bf N2)(f:eU N2)(s3 s4 s5 s6 s7:Sl):En:=[.va (eS P),.va (eL L),.va (nV P f),s3,s4,s5,s6,s7]
section
variable {P:List N2}{L:bf N2}{f:eU N2}
&tN (s3 s4 s5 s6 s7:Sl):disown 2 (gW P L f s3 s4 s5 s6 s7)=tbV P L f s3 s4 s5 s6 s7:=by
 show [Sl.va (eS P),.va (eL L),.va (OT.view (.dd (P.map en) (fF P f))),s3,s4,s5,s6,s7] =_
 have e:OT.view (.dd (P.map en) (fF P f))=nV P f:=by
  show T.dct (P.map en) ((fF P f).map fun r=>T.dct r.1 r.2)=_
  #,fF nV
  rw [List.map_map]
  rfl
 rw [e]
&wG {u v:N2}{a b c:En->Rs T}{ρ:En}(hc:c ρ= .ok (nV P f))(ha:a ρ= .ok (en u))(hb:b ρ= .ok (en v))(hu:u∈P)(hv:v∈P):o2 bD (o2 bD c a) b ρ= .ok (oI (f u v)):=by
 &au (t:=.dct (P.map en) (P.map fun w=>oI (f u w))) (u:=en v) (au (t:=nV P f) (u:=en u) hc ha ?_) hb ?_
 ·show(match lF (P.map en) (P.map fun u=>T.dct (P.map en) (P.map fun v=>oI (f u v))) (ky u)with | some t=>Rs.ok t | none=> .bad)=_
  rw [lR (fun u=>T.dct (P.map en) (P.map fun v=>oI (f u v))),if_pos hu]
 ·show(match lF (P.map en) (P.map fun w=>oI (f u w)) (ky v)with | some t=>Rs.ok t | none=> .bad)=_
  rw [lR (fun w=>oI (f u w)),if_pos hv]
&xU {u v:N2}{a b:En->Rs T}{s3 s4 s5 s6 s7:Sl}(ha:a (tbV P L f s3 s4 s5 s6 s7)= .ok (en u))(hb:b (tbV P L f s3 s4 s5 s6 s7)= .ok (en v))(hu:u∈P)(hv:v∈P):ln 2 (o2 bD (o2 bD (vr 2) a) b) (gW P L f s3 s4 s5 s6 s7)= .ok (oI (f u v)):=
 k_ln (o:=.dd (P.map en) (fF P f)) rfl (by rw [tN];#wG rfl ha hb hu hv) (by cases f u v <;> rfl)
&wY (g:N2->List T×List T)(u:N2):∀ (Q:List N2),u∈Q->n4 (Q.map en) (Q.map g) (ky u)=some (g u)
 | w::Q,h=>by
  rw [List.map_cons,List.map_cons,n4,bq]
  by_cases e:w=u
  ·subst e;rw [if_pos rfl]
  ·rw [if_neg (fun z=>e (hG z)),wY g u Q ((List.mem_cons.mp h).elim (fun z=>absurd z.symm e) id)]
&wV (g:N2->List T×List T)(u:N2)(x:List T×List T):∀ (Q:List N2),Q.Nodup->nZ (ky u) x (Q.map en) (Q.map g)=Q.map fun w=>if w=u then x else g w
 | [],_=>rfl
 | w::Q,h=>by
  rw [List.nodup_cons]at h
  rw [List.map_cons,List.map_cons,nZ,bq,List.map_cons]
  by_cases e:w=u
  ·subst e
   rw [if_pos rfl,if_pos rfl]
   congr 1
   #List.map_congr_left fun z hz=>by rw [if_neg (fun(y:z=w)=>h.1 (y▸hz))]
  ·rw [if_neg (fun z=>e (hG z)),if_neg e,wV g u x Q h.2]
&xj (nd:P.Nodup)(pl:P.length<1000){u v:N2}{x:Int}{a b c:En->Rs T}{s3 s4 s5 s6 s7:Sl}(ha:a (gW P L f s3 s4 s5 s6 s7)= .ok (en u))(hb:b (gW P L f s3 s4 s5 s6 s7)= .ok (en v))(hc:c (gW P L f s3 s4 s5 s6 s7)= .ok (.int x))(hu:u∈P)(hv:v∈P) :
  ii 2 a b c (gW P L f s3 s4 s5 s6 s7)= .ok (.nx (gW P L (iU f u v x) s3 s4 s5 s6 s7)):=by
 #,ii
 show(c (gW P L f s3 s4 s5 s6 s7) >>= fun w=>a (gW P L f s3 s4 s5 s6 s7) >>= fun z=>match(aV z).bind fun ka=>(n4 (P.map en) (fF P f) ka).map fun r=>(ka,r)with
  | some (ka,r)=>b (gW P L f s3 s4 s5 s6 s7) >>= fun y=>if (aV y).isSome=true/\r.1.length<1000 then Rs.ok (Fl.nx ((gW P L f s3 s4 s5 s6 s7).set 2 (.ow (.dd (P.map en) (nZ ka (gk y w r.1 r.2) (P.map en) (fF P f))))))else .bad
  | none=> .bad)=_
 rw [hc,aD,ha,aD,bq]
 have e1:n4 (P.map en) (fF P f) (ky u)=some (P.map en,P.map fun v=>oI (f u v)):=wY (fun u=>(P.map en,P.map fun v=>oI (f u v))) u P hu
 simp only [Option.bind_some,e1,Option.map_some]
 rw [hb,aD,bq,if_pos ⟨rfl,by rw [List.length_map];#pl⟩,qt (.int x) v (fun v=>oI (f u v)) P nd hv]
 have e2:=wV (fun u=>(P.map en,P.map fun v=>oI (f u v))) u (P.map en,P.map fun w=>if w=v then T.int x else oI (f u w)) P nd
 have e3:(P.map fun w=>if w=u then(P.map en,P.map fun w=>if w=v then T.int x else oI (f u w))else(P.map en,P.map fun v=>oI (f w v)))=fF P (iU f u v x):=by
  #,fF iU
  &List.map_congr_left fun w _=> ?_
  by_cases e:w=u
  ·subst e
   rw [if_pos rfl]
   congr 1
   &List.map_congr_left fun z _=> ?_
   by_cases h:z=v
   ·rw [if_pos h,if_pos ⟨rfl,h⟩];rfl
   ·rw [if_neg h,if_neg (fun q=>h q.2)]
  ·rw [if_neg e]
   congr 1
   #List.map_congr_left fun z _=>by rw [if_neg (fun q=>e q.1)]
 show Rs.ok (Fl.nx [.va (eS P),.va (eL L),.ow (.dd (P.map en) (nZ (ky u) (P.map en,P.map fun w=>if w=v then T.int x else oI (f u w)) (P.map en) (fF P f))),s3,s4,s5,s6,s7])=_
 rw [show nZ (ky u) (P.map en,P.map fun w=>if w=v then T.int x else oI (f u w)) (P.map en) (fF P f)=fF P (iU f u v x)from e2.trans e3]
&yp (nd:P.Nodup)(pl:P.length<1000){u v:N2}{x:Int}{a b c:En->Rs T}{s3 s4 s5 s6 s7:Sl}(ha:a (gW P L f s3 s4 s5 s6 s7)= .ok (en u))(hb:b (gW P L f s3 s4 s5 s6 s7)= .ok (en v))(ha':a (tbV P L f s3 s4 s5 s6 s7)= .ok (en u))(hb':b (tbV P L f s3 s4 s5 s6 s7)= .ok (en v))(hc:c (gW P L f s3 s4 s5 s6 s7)= .ok (.int x))(hu:u∈P)(hv:v∈P) :
  eI (kF (tb (o2 gf (ln 2 (o2 bD (o2 bD (vr 2) a) b)) (cn .non))) (tb (o2 mS c (ln 2 (o2 bD (o2 bD (vr 2) a) b))))) (ii 2 a b c) sN (gW P L f s3 s4 s5 s6 s7)= .ok (.nx (gW P L (lD f u v x) s3 s4 s5 s6 s7)):=by
 have g:=xU (P:=P) (L:=L) (f:=f) ha' hb' hu hv
 have p:=xj (P:=P) (L:=L) (f:=f) nd pl ha hb hc hu hv
 #,lD
 cases q:f u v with
 | none=>
  rw [q]at g
  #(bY (lj (aY (au (t:=.non) (u:=.non) g rfl rfl)))).trans p
 | some y=>
  rw [q]at g
  have c2:tb (o2 mS c (ln 2 (o2 bD (o2 bD (vr 2) a) b))) (gW P L f s3 s4 s5 s6 s7)= .ok (decide (x<y)):=aY (au (t:=.int x) (u:=.int y) hc g rfl)
  by_cases h:x<y
  ·rw [decide_eq_true h]at c2
   simp only [if_pos h]
   #(bY (gv (aY (au (t:=.int y) (u:=.non) g rfl rfl)) c2)).trans p
  ·rw [decide_eq_false h]at c2
   simp only [if_neg h]
   #(cF (gv (aY (au (t:=.int y) (u:=.non) g rfl rfl)) c2)).trans rfl
end
section
variable {P:List N2}{L:bf N2}
&rS:∀ (P:List N2),li (P.map en)=true
 | [] =>rfl
 | u::P=>by
  have:=rS P
  simp [li,bq,this]
&key_nd (nd:P.Nodup):((P.map en).map aV).Nodup:=by
 rw [List.map_map]
 #nd.map _ fun a b h e=>h (hG e)
&tb_new (nd:P.Nodup)(pl:P.length<=1000):mm 2 0 [.va (eS P),.va (eL L),.em,.em,.em,.em,.em,.em] = .ok (.nx (gW P L (fun _ _=>none) .em .em .em .em .em)):=by
 show(if (2:Nat)<8/\li (P.map en)=true/\((P.map en).map aV).Nodup/\(P.map en).length<=1000 then Rs.ok (Fl.nx [.va (eS P),.va (eL L),.ow (.dd (P.map en) ((P.map en).map fun _=>(P.map en,(P.map en).map fun _=>T.non))),.em,.em,.em,.em,.em])else .bad)=_
 rw [if_pos ⟨by omega,rS P,key_nd nd,by rw [List.length_map];#pl⟩,List.map_map,List.map_map]
 rfl
&tb_l1 (nd:P.Nodup)(pl:P.length<1000):∀ (Q:List N2) (f:eU N2) (s3 s4 s5 s6 s7:Sl),(∀u∈Q,u∈P)->∃ s3',
  aX (gN 3) (ii 2 (vr 3) (vr 3) (cn (.int 0))) (Q.map en) (gW P L f s3 s4 s5 s6 s7)= .ok (.nx (gW P L (Q.foldl (fun f u=>iU f u u 0) f) s3' s4 s5 s6 s7))
 | [],f,s3,s4,s5,s6,s7,_=>⟨s3,rfl⟩
 | u::Q,f,s3,s4,s5,s6,s7,h=>by
  have hu:=h u List.mem_cons_self
  rw [List.map_cons,cX (ρ1:=gW P L f (.va (en u)) s4 s5 s6 s7) rfl (xj nd pl (u:=u) (v:=u) (x:=0) rfl rfl rfl hu hu)]
  #tb_l1 nd pl Q _ _ _ _ _ _ fun w hw=>h w (List.mem_cons_of_mem _ hw)
&oQ:∀ (Q:List N2) (f:eU N2) (u v:N2),Q.foldl (fun f u=>iU f u u 0) f u v=if u∈Q/\u=v then some 0 else f u v
 | [],f,u,v=>by rw [if_neg (fun h=>nomatch h.1)];rfl
 | w::Q,f,u,v=>by
  rw [List.foldl_cons,oQ Q]
  by_cases e:u=v
  ·subst e
   by_cases m:u∈Q
   ·rw [if_pos ⟨m,rfl⟩,if_pos ⟨List.mem_cons_of_mem _ m,rfl⟩]
   ·rw [if_neg (fun z=>m z.1)]
    #,iU
    by_cases q:u=w
    ·subst q;rw [if_pos ⟨rfl,rfl⟩,if_pos ⟨List.mem_cons_self,rfl⟩]
    ·rw [if_neg (fun z=>q z.1),if_neg (fun z=>(List.mem_cons.mp z.1).elim q m)]
  ·rw [if_neg (fun z=>e z.2),if_neg (fun z=>e z.2)]
   #,iU
   rw [if_neg (fun z=>e (z.1.trans z.2.symm))]
&vW (P:List N2):P.foldl (fun f u=>iU f u u 0) (fun _ _=>none)=qP P:=by
 funext u v
 rw [oQ]
 rfl
&tb_l2 (nd:P.Nodup)(pl:P.length<1000):∀ (M:bf N2) (f:eU N2) (s3 s4 s5 s6 s7:Sl),(∀x∈M,x.1∈P/\x.2.1∈P)->∃ s3' s4' s5',
  aX (gT 3 (dO (gN 3) (dO (gN 4) (dO (gN 5) lm)))) (eI (kF (tb (o2 gf (ln 2 (o2 bD (o2 bD (vr 2) (vr 3)) (vr 4))) (cn .non))) (tb (o2 mS (vr 5) (ln 2 (o2 bD (o2 bD (vr 2) (vr 3)) (vr 4)))))) (ii 2 (vr 3) (vr 4) (vr 5)) sN) (M.map eB) (gW P L f s3 s4 s5 s6 s7)= .ok (.nx (gW P L (M.foldl (fun f x=>lD f x.1 x.2.1 x.2.2) f) s3' s4' s5' s6 s7))
 | [],f,s3,s4,s5,s6,s7,_=>⟨s3,s4,s5,rfl⟩
 | x::M,f,s3,s4,s5,s6,s7,h=>by
  have hx:=h x List.mem_cons_self
  rw [List.map_cons,cX (ρ1:=gW P L f (.va (en x.1)) (.va (en x.2.1)) (.va (.int x.2.2)) s6 s7) rfl (yp nd pl (u:=x.1) (v:=x.2.1) (x:=x.2.2) rfl rfl rfl rfl rfl hx.1 hx.2)]
  #tb_l2 nd pl M _ _ _ _ _ _ fun w hw=>h w (List.mem_cons_of_mem _ hw)
abbrev tbS:En->Rs Fl:=(eI (jT (tb (o2 eK (ln 2 (o2 bD (o2 bD (vr 2) (vr 3)) (vr 6))) (cn .non))) (tb (o2 eK (ln 2 (o2 bD (o2 bD (vr 2) (vr 6)) (vr 4))) (cn .non)))) (ax (bQ (o2 aH (ln 2 (o2 bD (o2 bD (vr 2) (vr 3)) (vr 6))) (ln 2 (o2 bD (o2 bD (vr 2) (vr 6)) (vr 4)))) (gN 7)) (eI (kF (tb (o2 gf (ln 2 (o2 bD (o2 bD (vr 2) (vr 3)) (vr 4))) (cn .non))) (tb (o2 mS (vr 7) (ln 2 (o2 bD (o2 bD (vr 2) (vr 3)) (vr 4)))))) (ii 2 (vr 3) (vr 4) (vr 7)) sN)) sN)
&tb_step (nd:P.Nodup)(pl:P.length<1000){mid one other:N2}(hm:mid∈P)(h1:one∈P)(h2:other∈P)(f:eU N2)(s5 s7:Sl):∃ s7',
  tbS (gW P L f (.va (en one)) (.va (en other)) s5 (.va (en mid)) s7)= .ok (.nx (gW P L (kw mid one other f) (.va (en one)) (.va (en other)) s5 (.va (en mid)) s7')):=by
 have ga:∀ s7,ln 2 (o2 bD (o2 bD (vr 2) (vr 3)) (vr 6)) (gW P L f (.va (en one)) (.va (en other)) s5 (.va (en mid)) s7)= .ok (oI (f one mid)):=fun s7=>xU rfl rfl h1 hm
 have gb:∀ s7,ln 2 (o2 bD (o2 bD (vr 2) (vr 6)) (vr 4)) (gW P L f (.va (en one)) (.va (en other)) s5 (.va (en mid)) s7)= .ok (oI (f mid other)):=fun s7=>xU rfl rfl hm h2
 #,kw tbS
 cases qa:f one mid with
 | none=>
  have ga:=ga s7
  rw [qa]at ga
  #⟨s7,(cF (yj (aY (au (t:=.non) (u:=.non) ga rfl rfl)))).trans rfl⟩
 | some x=>
  have ga:=ga s7
  rw [qa]at ga
  have c1:=aY (au (g:=eK) (t:=.int x) (u:=.non) (fb:=cn .non) ga rfl rfl)
  cases qb:f mid other with
  | none=>
   have gb:=gb s7
   rw [qb]at gb
   #⟨s7,(cF (tF c1 (aY (au (t:=.non) (u:=.non) gb rfl rfl)))).trans rfl⟩
  | some y=>
   have gb:=gb s7
   rw [qb]at gb
   &⟨.va (.int (x+y)),(bY (tF c1 (aY (au (t:=.int y) (u:=.non) gb rfl rfl)))).trans ?_⟩
   rw [az (bJ (ρ':=gW P L f (.va (en one)) (.va (en other)) s5 (.va (en mid)) (.va (.int (x+y)))) (au (t:=.int x) (u:=.int y) ga gb rfl) rfl)]
   #yp nd pl (u:=one) (v:=other) (x:=x+y) rfl rfl rfl rfl rfl h1 h2
&tb_l3 (nd:P.Nodup)(pl:P.length<1000){mid one:N2}(hm:mid∈P)(h1:one∈P):∀ (Q:List N2) (f:eU N2) (s4 s5 s7:Sl),(∀u∈Q,u∈P)->∃ s4' s7',
  aX (gN 4) tbS (Q.map en) (gW P L f (.va (en one)) s4 s5 (.va (en mid)) s7)= .ok (.nx (gW P L (kx mid one Q f) (.va (en one)) s4' s5 (.va (en mid)) s7'))
 | [],f,s4,s5,s7,_=>⟨s4,s7,rfl⟩
 | u::Q,f,s4,s5,s7,h=>by
  have hu:=h u List.mem_cons_self
  &⟨s7',e⟩:=tb_step (L:=L) nd pl hm h1 hu f s5 s7
  rw [List.map_cons,cX (ρ1:=gW P L f (.va (en one)) (.va (en u)) s5 (.va (en mid)) s7) rfl e]
  #tb_l3 nd pl hm h1 Q _ _ _ _ fun w hw=>h w (List.mem_cons_of_mem _ hw)
&tb_l4 (nd:P.Nodup)(pl:P.length<1000){mid:N2}(hm:mid∈P):∀ (Q:List N2) (f:eU N2) (s3 s4 s5 s7:Sl),(∀u∈Q,u∈P)->∃ s3' s4' s7',
  aX (gN 3) (dA (iS (vr 0)) (gN 4) tbS) (Q.map en) (gW P L f s3 s4 s5 (.va (en mid)) s7)= .ok (.nx (gW P L (nr mid Q P f) s3' s4' s5 (.va (en mid)) s7'))
 | [],f,s3,s4,s5,s7,_=>⟨s3,s4,s7,rfl⟩
 | u::Q,f,s3,s4,s5,s7,h=>by
  have hu:=h u List.mem_cons_self
  &⟨s4',s7',e⟩:=tb_l3 (L:=L) nd pl hm hu P f s4 s5 s7 fun _ z=>z
  rw [List.map_cons,cX (ρ1:=gW P L f (.va (en u)) s4 s5 (.va (en mid)) s7) rfl (dq (ts:=P.map en) rfl e)]
  #tb_l4 nd pl hm Q _ _ _ _ _ fun w hw=>h w (List.mem_cons_of_mem _ hw)
&tb_l5 (nd:P.Nodup)(pl:P.length<1000):∀ (Q:List N2) (f:eU N2) (s3 s4 s5 s6 s7:Sl),(∀u∈Q,u∈P)->∃ s3' s4' s6' s7',
  aX (gN 6) (dA (iS (vr 0)) (gN 3) (dA (iS (vr 0)) (gN 4) tbS)) (Q.map en) (gW P L f s3 s4 s5 s6 s7)= .ok (.nx (gW P L (rX Q P f) s3' s4' s5 s6' s7'))
 | [],f,s3,s4,s5,s6,s7,_=>⟨s3,s4,s6,s7,rfl⟩
 | u::Q,f,s3,s4,s5,s6,s7,h=>by
  have hu:=h u List.mem_cons_self
  &⟨s3',s4',s7',e⟩:=tb_l4 (L:=L) nd pl hu P f s3 s4 s5 s7 fun _ z=>z
  rw [List.map_cons,cX (ρ1:=gW P L f s3 s4 s5 (.va (en u)) s7) rfl (dq (ts:=P.map en) rfl e)]
  #tb_l5 nd pl Q _ _ _ _ _ _ fun w hw=>h w (List.mem_cons_of_mem _ hw)
def Diag (P:List N2)(f:eU N2):Prop:=∀ u∈P,∀y,f u u=some y->0<=y
&tb_end (hd:∀ u∈P,∃y,table P L u u=some y)(pl:P.length<1000)(s3 s4 s5 s6 s7:Sl) :
  ∃t,((Diag P (table P L)/\t=nV P (table P L))\/(¬Diag P (table P L)/\t= .non))/\lx 2 (aL (ifE (tb (o2 il (dv (iS (vr 0)) [none,some 2] (gN 0) (tb (o2 mS (o2 bD (o2 bD (vr 1) (vr 0)) (vr 0)) (cn (.int 0)))) (vr 0)) (b7 ah))) (vr 2) (cn .non))) (gW P L (table P L) s3 s4 s5 s6 s7)= .ok (.rt t):=by
 generalize hf:table P L=f
 rw [hf]at hd
 have lc:dv (iS (vr 0)) [none,some 2] (gN 0) (tb (o2 mS (o2 bD (o2 bD (vr 1) (vr 0)) (vr 0)) (cn (.int 0)))) (vr 0) (tbV P L f s3 s4 s5 s6 s7)= .ok (.lst (((P.map en).filter fun t=>P.any fun u=>decide (aV t=some (ky u))&&(match f u u with | some y=>decide (y<0) | none=>false)).map id)):=by
  &uL (ts:=P.map en) rfl (aw (k:=1000) (by rw [List.length_map];omega)) (by simp) fun t ht=> ?_
  &⟨u,hu,rfl⟩:=List.mem_map.mp ht
  &⟨y,hy⟩:=hd u hu
  &⟨?_,fun _=>rfl⟩
  have e:(P.any fun w=>decide (aV (en u)=some (ky w))&&(match f w w with | some y=>decide (y<0) | none=>false))=decide (y<0):=by
   by_cases h:y<0
   ·rw [decide_eq_true h]
    #List.any_eq_true.mpr ⟨u,hu,by rw [hy];simp [h,bq]⟩
   ·rw [decide_eq_false h,List.any_eq_false]
    intro w hw
    by_cases q:w=u
    ·subst q;rw [hy];simp [h]
    ·rw [decide_eq_false (fun z=>q (hG ((bq u).symm.trans z)).symm)];simp
  rw [e]
  have g:=wG (P:=P) (f:=f) (u:=u) (v:=u) (ρ:=[.va (en u),.va (nV P f)]) (c:=vr 1) (a:=vr 0) (b:=vr 0) rfl rfl rfl hu hu
  rw [hy]at g
  #aY (au (t:=.int y) (u:=.int 0) g rfl rfl)
 rw [List.map_id]at lc
 generalize hp:(fun t=>P.any fun u=>decide (aV t=some (ky u))&&(match f u u with | some y=>decide (y<0) | none=>false))=p at lc
 have pu:∀ u∈P,∀y,f u u=some y->p (en u)=decide (y<0):=by
  intro u hu y hy
  rw [<-hp]
  show(P.any fun w=>decide (aV (en u)=some (ky w))&&(match f w w with | some y=>decide (y<0) | none=>false))=decide (y<0)
  by_cases h:y<0
  ·rw [decide_eq_true h]
   #List.any_eq_true.mpr ⟨u,hu,by rw [hy];simp [h,bq]⟩
  ·rw [decide_eq_false h,List.any_eq_false]
   intro w hw
   by_cases q:w=u
   ·subst q;rw [hy];simp [h]
   ·rw [decide_eq_false (fun z=>q (hG ((bq u).symm.trans z)).symm)];simp
 have iff:(P.map en).filter p= [] ↔Diag P f:=by
  rw [List.filter_eq_nil_iff]
  constructor
  ·intro h u hu y hy
   have:=h (en u) (List.mem_map.mpr ⟨u,hu,rfl⟩)
   rw [pu u hu y hy]at this
   simpa using this
  ·intro h t ht
   &⟨u,hu,rfl⟩:=List.mem_map.mp ht
   &⟨y,hy⟩:=hd u hu
   rw [pu u hu y hy]
   have:=h u hu y hy
   simpa using this
 have nd:nds ((P.map en).filter p)=true:=xQ fun t ht=>by
  &⟨u,_,rfl⟩:=List.mem_map.mp (List.mem_filter.mp ht).1
  rfl
 have eq:o2 il (dv (iS (vr 0)) [none,some 2] (gN 0) (tb (o2 mS (o2 bD (o2 bD (vr 1) (vr 0)) (vr 0)) (cn (.int 0)))) (vr 0)) (b7 ah) (tbV P L f s3 s4 s5 s6 s7)= .ok (.bl (aZ (.lst ((P.map en).filter p)) (.lst []))):=
  au (u:=.lst []) lc (d9 rfl (aw (k:=1) (by simp))) (by #,il;rw [if_pos (rY (by simp [T.dep,deps]) (by simpa [T.nd]using nd) rfl)])
 by_cases D:Diag P f
 ·&⟨nV P f,.inl ⟨D,rfl⟩,?_⟩
  rw [iff.mpr D]at eq
  &yh ?_
  rw [tN]
  #bA ((yf (p:=true) (aY eq)).trans rfl)
 ·&⟨.non,.inr ⟨D,rfl⟩,?_⟩
  have:(P.map en).filter p≠ []:=fun z=>D (iff.mp z)
  cases q:(P.map en).filter p with
  | nil=>#absurd q this
  | cons a l=>
   rw [q]at eq
   &yh ?_
   rw [tN]
   #bA ((yf (p:=false) (aY (eq.trans (by simp [aZ,beqTs])))).trans rfl)
&e_table (nd:P.Nodup)(pl:P.length<1000)(hL:∀ x∈L,x.1∈P/\x.2.1∈P) :
  ∃t,((gy L/\Least L P (table P L)/\t=nV P (table P L))\/(¬gy L/\t= .non))/\cg [eS P,eL L] = .ok t:=by
 &⟨a3,e1⟩:=tb_l1 (L:=L) nd pl P (fun _ _=>none) .em .em .em .em .em fun _ z=>z
 rw [vW]at e1
 &⟨b3,b4,b5,e2⟩:=tb_l2 (L:=L) nd pl L (qP P) a3 .em .em .em .em hL
 &⟨c3,c4,c6,c7,e3⟩:=tb_l5 (L:=L) nd pl P (wH P L) b3 b4 b5 .em .em fun _ z=>z
 &⟨t,ht,e4⟩:=tb_end (P:=P) (L:=L) (fun u hu=>let ⟨y,h,_⟩:=lZ (L:=L) hu;⟨y,h⟩) pl c3 c4 b5 c6 c7
 &⟨t,ht.elim (fun h=> .inl ?_) (fun h=> .inr ⟨fun n=>h.1 fun u hu y hy=> ?_,h.2⟩),a8 rfl ?_⟩
 ·have:=qO hL h.1
  #⟨this.1,this.2,h.2⟩
 ·#Int.not_lt.mp fun z=>vi hy z n
 ·show eh [.va (eS P),.va (eL L),.em,.em,.em,.em,.em,.em] =_
  #,eh
  rw [az (tb_new nd (by omega)),az (dq (ts:=P.map en) rfl e1),az (dq (ts:=L.map eB) rfl e2)]
  #(az (dq (ts:=P.map en) rfl e3)).trans e4
end
end G
namespace Gr
variable {ν:Type}[DecidableEq ν]
def less (L:bf ν)(u d:Int):bf ν:=L.map fun x=>(x.1,x.2.1,x.2.2*d - u)
&qg {L:bf ν}{u d:Int}{k:Nat}:(less L u d)[k]? =(L[k]?).map fun x=>(x.1,x.2.1,x.2.2*d - u):=by #,less;rw [List.getElem?_map]
&less_ch {L:bf ν}{u d:Int}:∀ {q:List Nat} {a b:ν},Ch (less L u d) a q b↔Ch L a q b
 | [],a,b=>Iff.rfl
 | k::r,a,b=>by
  show(∃c m,(less L u d)[k]? =some (a,c,m)/\Ch (less L u d) c r b)↔ ∃c m,L[k]? =some (a,c,m)/\Ch L c r b
  rw [qg]
  constructor
  ·rintro ⟨c,m,e,h⟩
   cases q:L[k]? with
   | none=>rw [q]at e;cases e
   | some x=>
    rw [q]at e
    &⟨x1,x2,x3⟩:=x
    cases e
    #⟨_,_,rfl,less_ch.mp h⟩
  ·rintro ⟨c,m,e,h⟩
   #⟨c,m*d - u,by rw [e];rfl,less_ch.mpr h⟩
&jl {L:bf ν}{u d:Int}:∀ {q:List Nat},(∀k∈q,k<L.length)->aO (less L u d) q=aO L q*d - u*q.length
 | [],_=>by simp [aO]
 | k::r,h=>by
  have hk:=h k List.mem_cons_self
  have e:L[k]? =some L[k]:=List.getElem?_eq_getElem hk
  rw [aO,aO,jl fun j hj=>h j (List.mem_cons_of_mem _ hj),most,most,qg,e,List.length_cons]
  show L[k].2.2*d - u+(aO L r*d - u*r.length)=(L[k].2.2+aO L r)*d - u*((r.length+1:Nat):Int)
  rw [Int.add_mul,Int.natCast_add,Int.mul_add]
  omega
&xW {L:bf ν}{u d:Int}(q:List Nat):dS (less L u d) q=dS L q:=by
 #,dS src
 congr 1
 funext k
 rw [qg]
 cases L[k]? <;> rfl
def Rnd (L:bf ν)(c:Int)(n:Nat):Prop:=∃ q a,q≠ []/\Ch L a q a/\aO L q=c/\q.length=n
&Rnd.pos {L:bf ν}{c:Int}{n:Nat}(h:Rnd L c n):0<n:=by
 &⟨q,a,h1,_,_,rfl⟩:=h
 #List.length_pos_iff.mpr h1
&rnd_noNeg {L:bf ν}:gy L↔ ∀c n,Rnd L c n->0<=c:=by
 constructor
 ·rintro h c n ⟨q,a,_,h2,rfl,_⟩
  #h a _ h2.wk
 ·intro h a s w
  &⟨ks,h1,rfl⟩:=w.ch
  cases ks with
  | nil=>#Int.le_refl _
  | cons k r=>#h _ _ ⟨_,a,by simp,h1,rfl,rfl⟩
&mQ {L:bf ν}{u d:Int}(h:gy (less L u d)){c:Int}{n:Nat}(r:Rnd L c n):u*n<=c*d:=by
 &⟨q,a,h1,h2,rfl,rfl⟩:=r
 have:=rnd_noNeg.mp h _ _ ⟨q,a,h1,less_ch.mpr h2,rfl,rfl⟩
 rw [jl h2.lt]at this
 omega
structure Sr (L:bf ν)(q:List Nat):Prop where
 ne:q≠ []
 ch:∃ a,Ch L a q a
 nd:(dS L q).Nodup
&Sr.pos {L:bf ν}{q:List Nat}(h:Sr L q):0<q.length:=List.length_pos_iff.mpr h.ne
&Bar.sr {L:bf ν}{u d:Int}{q:List Nat}(h:Bar (less L u d) q):Sr L q/\aO L q*d<u*q.length:=by
 &⟨h1,⟨a,ha⟩,h3,h4⟩:=h
 have ha:=less_ch.mp ha
 rw [jl ha.lt]at h3
 rw [xW]at h4
 #⟨⟨h1,⟨a,ha⟩,h4⟩,by omega⟩
def box (N M:Nat):List (Int×Nat):=(List.range (2*M+1)).flatMap fun(i:Nat)=>(List.range N).map fun(j:Nat)=>((i:Int) - (M:Int),j+1)
&mem_box {N M n:Nat}{c:Int}(h1:c.natAbs<=M)(h2:0<n)(h3:n<=N):(c,n)∈box N M:=
 List.mem_flatMap.mpr ⟨(c+M).toNat,List.mem_range.mpr (by omega),List.mem_map.mpr ⟨n - 1,List.mem_range.mpr (by omega),Prod.ext (by show(((c+M).toNat:Nat):Int) - M=c;omega) (by show n - 1+1=n;omega)⟩⟩
&u4 {N M:Nat}{p:Int×Nat}(h:p∈box N M):0<p.2:=by
 &⟨i,_,h⟩:=List.mem_flatMap.mp h
 &⟨j,_,rfl⟩:=List.mem_map.mp h
 #Nat.succ_pos j
&box_len (N M:Nat):(box N M).length=(2*M+1)*N:=by
 #,box
 rw [List.length_flatMap]
 have:∀ l:List Nat,(l.map fun _=>N).sum=l.length*N:=by
  intro l
  induction l with
  | nil=>simp
  | cons a l ih=>rw [List.map_cons,List.sum_cons,ih,List.length_cons,Nat.add_mul];omega
 simp only [List.length_map,List.length_range]
 rw [this,List.length_range]
def mu (N M:Nat)(c:Int)(n:Nat):Nat:=((box N M).filter fun p=>decide (p.1*(n:Int)<c*(p.2:Int))).length
&oU {α:Type}{p q:α->Bool}:∀ {l:List α},(∀x∈l,p x=true->q x=true)->(∃x∈l,q x=true/\p x=false)->(l.filter p).length<(l.filter q).length
 | [],_,⟨_,h,_⟩=>nomatch h
 | a::l,h,⟨x,hx,h1,h2⟩=>by
  have le:(l.filter p).length<=(l.filter q).length:=by
   have:∀ l:List α,(∀x∈l,p x=true->q x=true)->(l.filter p).length<=(l.filter q).length:=by
    intro l
    induction l with
    | nil=>intro _;#Nat.le_refl _
    | cons b l ih=>
     intro h
     have:=ih fun x hx=>h x (List.mem_cons_of_mem _ hx)
     have hb:=h b List.mem_cons_self
     rw [List.filter_cons,List.filter_cons]
     cases e:p b with
     | true=>rw [hb e];simp;omega
     | false=>cases q b <;> simp <;> omega
   #this l fun x hx=>h x (List.mem_cons_of_mem _ hx)
  have ha:=h a List.mem_cons_self
  rw [List.filter_cons,List.filter_cons]
  rcases List.mem_cons.mp hx with rfl | hx
  ·rw [h1,h2];simp;omega
  ·have ih:=oU (l:=l) (fun x hx=>h x (List.mem_cons_of_mem _ hx)) ⟨x,hx,h1,h2⟩
   cases e:p a with
   | true=>rw [ha e];simp;omega
   | false=>cases q a <;> simp <;> omega
&mu_lt {N M n n':Nat}{c c':Int}(hb:(c',n')∈box N M)(hn:0<n)(h:c'*n<c*n'):mu N M c' n'<mu N M c n:=by
 have hn':=u4 hb
 &oU (fun p hp h1=> ?_) ⟨(c',n'),hb,decide_eq_true h,decide_eq_false (Int.lt_irrefl _)⟩
 have h1:=of_decide_eq_true h1
 have hp:=u4 hp
 &decide_eq_true ?_
 have i1:(0:Int)<n:=by omega
 have i2:(0:Int)<n':=by omega
 have i3:(0:Int)<p.2:=by omega
 have a1:p.1*n'*n<c'*p.2*n:=Int.mul_lt_mul_of_pos_right h1 i1
 have a2:c'*n*p.2<c*n'*p.2:=Int.mul_lt_mul_of_pos_right h i3
 have e1:p.1*n'*n=p.1*n*n':=by rw [Int.mul_assoc,Int.mul_comm (n':Int),<-Int.mul_assoc]
 have e2:c'*p.2*n=c'*n*p.2:=by rw [Int.mul_assoc,Int.mul_comm (p.2:Int),<-Int.mul_assoc]
 have e3:c*n'*p.2=c*p.2*n':=by rw [Int.mul_assoc,Int.mul_comm (n':Int),<-Int.mul_assoc]
 rw [e1,e2]at a1
 rw [e3]at a2
 #Int.lt_of_mul_lt_mul_right (Int.lt_trans a1 a2) (Int.le_of_lt i2)
&mu_le (N M:Nat)(c:Int)(n:Nat):mu N M c n<=(2*M+1)*N:=by
 #,mu
 rw [<-box_len]
 #List.length_filter_le _ _
def u9 (L:bf ν):Option (List Nat)->Prop
 | none=> ∀c n,¬Rnd L c n
 | some q=>Sr L q/\∀ c n,Rnd L c n->aO L q*n<=c*q.length
end Gr
namespace G
open PySem Tr Gr
def oT (o:Option (List Nat)):T:=match o with
 | some q=> .lst (eN q)
 | none=> .non
def FP (L:bf N2)(o:Option (List Nat)):Prop:=match o with
 | some q=>Bar L q
 | none=>gy L
&nn_of {L:bf N2}{P:List N2}{b:cu N2}(h:Settled L P b)(hL:∀ x∈L,x.1∈P/\x.2.1∈P):gy L:=by
 have htm:∀ v∈P,∃w,b v=some ((match b v with | some x=>x.1 | none=>0),w):=fun v hv=>by
  &⟨d,w,e,_⟩:=h.least v hv v 0 (.nil v)
  #⟨w,by rw [e]⟩
 #(h.holds hL htm).noNeg
&uU {L:bf N2}{P:List N2}(F:wj L P)(nd:P.Nodup):∃ o x,d6 [eL L,eS P] = .ok (.tup [x,oT o])/\FP L o:=by
 &⟨r,hr,ok⟩:=yF F nd (fun v h=>h)
 cases r with
 | inr q=>#⟨some q,_,hr,ok⟩
 | inl b=>
  &⟨ns,D,hr⟩:=hr
  #⟨none,_,hr,nn_of ok F.ends⟩
&k_set {L:bf N2}{P:List N2}{o:Option (List Nat)}{x:T}{f g:En->Rs T}{ρ:En}(e:d6 [eL L,eS P] = .ok (.tup [x,oT o]))(hf:f ρ= .ok (eL L))(hg:g ρ= .ok (eS P)):o2 aN (cl d6 (ac f (ac g ah))) (cn (.int 1)) ρ= .ok (oT o):=
 au (t:=.tup [x,oT o]) (u:=.int 1) (aM (ts:=[eL L,eS P]) (al hf (al hg rfl)) e) rfl rfl
&ny (L:bf N2)(u d:Int)(hl:L.length<=1000)(h1 : -18446744073709551616<d)(h2:d<18446744073709551616):eQ [eL L,.int u,.int d] = .ok (eL (less L u d)):=by
 &a8 rfl ?_
 show gi [.va (eL L),.va (.int u),.va (.int d)] =_
 #,gi
 &bA ((ng (ts:=L.map eB) (h:=fun t=>match t with | .tup [a,b,.int m] => .tup [a,b,.int (m*d - u)] | _=> .non) (gQ rfl) (aw (by rw [List.length_map];#hl) (by omega)) (by simp) fun t ht=> ?_).trans ?_)
 ·&⟨x,hx,rfl⟩:=List.mem_map.mp ht
  &cm (ts:=[en x.1,en x.2.1,.int (x.2.2*d - u)]) (al (au (t:=eB x) (u:=.int 0) rfl rfl rfl) (al (au (t:=eB x) (u:=.int 1) rfl rfl rfl) (al (au (t:=.int (x.2.2*d)) (u:=.int u) (au (t:=.int x.2.2) (u:=.int d) (au (t:=eB x) (u:=.int 2) rfl rfl rfl) rfl (iK h1 h2)) rfl rfl) rfl))) (aw (k:=3) (by simp))
 ·rw [List.map_map]
  show Rs.ok (T.lst _)= .ok (.lst ((less L u d).map eB))
  #,less
  rw [List.map_map]
  rfl
section
variable {cs ls:List T}{L:bf N2}{P:List N2}
&oS {u d:Int}(F:wj L P)(B:∀ x∈L,big x)(hl:L.length<=60)(hu:u.natAbs<=59940)(hd:d.natAbs<=60):wj (less L u d) P:=by
 &⟨by #,less;rw [List.length_map];omega,?_,fun x hx=> ?_,F.pl⟩
 ·have:∀ M:bf N2,(∀x∈M,big x)->size (less M u d)<=119880*M.length:=by
   intro M
   induction M with
   | nil=>intro _;simp [less,size]
   | cons x M ih=>
    intro h
    have:=ih fun y hy=>h y (List.mem_cons_of_mem _ hy)
    have hx:=h x List.mem_cons_self
    unfold big at hx
    unfold size less at this ⊢
    simp only [List.map_cons,List.sum_cons,List.length_cons]at this ⊢
    have h1:(x.2.2*d).natAbs<=59940:=by
     rw [Int.natAbs_mul]
     #Nat.le_trans (Nat.mul_le_mul hx hd) (by decide)
    have:(x.2.2*d - u).natAbs<=119880:=by omega
    omega
  have:=this L B
  omega
 ·unfold less at hx
  &⟨y,hy,rfl⟩:=List.mem_map.mp hx
  #F.ends y hy
abbrev tE (R:T)(L:bf N2)(P:List N2)(a b:T):En:=[.va R,.va (eL L),.va (eS P),.va a,.va b]
abbrev tB:En->Rs Fl:=(ax (bQ (vr 4) (gN 3)) (bQ (o2 aN (cl d6 (ac (cl eQ (ac (vr 1) (ac (cl dZ (ac (vr 1) (ac (vr 3) ah))) (ac (cl bL (ac (vr 3) ah)) ah)))) (ac (vr 2) ah))) (cn (.int 1))) (gN 4)))
&kc {q:List Nat}(h:Sr L q):q.length<=L.length/\(aO L q).natAbs<=size L:=by
 &⟨a,ha⟩:=h.ch
 #⟨G.Ch.len ha h.nd,ha.small h.nd⟩
&wR {q:List Nat}(h:Sr L q):∀ k∈q,k<L.length:=by
 &⟨a,ha⟩:=h.ch
 #ha.lt
&kR (q:List Nat){f:En->Rs T}{ρ:En}(h:f ρ= .ok (.lst (eN q))):cl bL (ac f ah) ρ= .ok (.int (q.length:Nat)):=aM (ts:=[.lst (eN q)]) (al h rfl) (by show Rs.ok (T.int ((eN q).length:Nat))=_;#,eN;rw [List.length_map])
&wI (R:T)(F:wj L P)(nd:P.Nodup)(B:∀ x∈L,big x)(hl:L.length<=60)(hs:size L<=59940):∀ (n:Nat) (a:T) (q:List Nat),Sr L q->mu L.length (size L) (aO L q) q.length<n →
  ∃q' a',Sr L q'/\u9 L (some q')/\bv (tb (o2 eK (vr 4) (cn .non))) tB (n+1) (tE R L P a (.lst (eN q)))= .ok (.nx (tE R L P (.lst (eN q')) a'))
 | 0,_,_,_,h=>by omega
 | n+1,a,q,hq,h=>by
  &⟨l1,l2⟩:=kc hq
  have hp:=hq.pos
  &⟨o,x,e,fp⟩:=uU (oS F B hl (u:=aO L q) (d:=(q.length:Nat)) (by omega) (by omega)) nd
  have st:tB (tE R L P a (.lst (eN q)))= .ok (.nx (tE R L P (.lst (eN q)) (oT o))):=by
   &(az (ρ':=tE R L P (.lst (eN q)) (.lst (eN q))) (bJ (t:=.lst (eN q)) rfl rfl)).trans ?_
   #bJ (k_set e (aM (ts:=[eL L,.int (aO L q),.int (q.length:Nat)]) (al rfl (al (aM (ts:=[eL L,.lst (eN q)]) rfl (yE (wR hq) (by omega))) (al (kR q rfl) rfl))) (ny L _ _ (by omega) (by omega) (by omega))) rfl) rfl
  rw [m6 (aY (au (t:=.lst (eN q)) (u:=.non) rfl rfl rfl)) st]
  cases o with
  | none=>
   &⟨q,.non,hq,⟨hq,fun c m r=> ?_⟩,m7 (aY (au (t:=.non) (u:=.non) rfl rfl rfl))⟩
   #mQ fp r
  | some q'=>
   &⟨s',lt⟩:=Bar.sr fp
   &⟨m1,m2⟩:=kc s'
   #wI R F nd B hl hs n (.lst (eN q)) q' s' (by
    have:=mu_lt (mem_box m2 s'.pos m1) hp lt
    omega)
end
section
variable {cs ls:List T}{L:bf N2}{P:List N2}
&Rd.size (R:Rd cs ls L P):size L<=59940:=by have:=uc R.bg;have:=R.ll;omega
&Rd.tight (R:Rd cs ls L P):∃ o,bn [.tup [.tup cs,.tup ls]] = .ok (oT o)/\u9 L o:=by
 have hs:=R.size
 have hl:=R.ll
 &⟨o,x,e,fp⟩:=uU (oS R.f R.bg R.ll (u:=1) (d:=0) (by decide) (by decide)) R.nd
 have begin_:∀ {y:Rs Fl},(ax (bv (tb (o2 eK (vr 4) (cn .non))) tB FU) (aL (vr 3))) (tE (.tup [.tup cs,.tup ls]) L P .non (oT o))=y->cA [.va (.tup [.tup cs,.tup ls]),.em,.em,.em,.em] =y:=fun {y} h=>by
  #,cA
  rw [az (ρ':=[.va (.tup [.tup cs,.tup ls]),.va (eL L),.em,.em,.em]) (bJ (aM (ts:=[.tup [.tup cs,.tup ls]]) rfl R.bounds) rfl)]
  rw [az (ρ':=[.va (.tup [.tup cs,.tup ls]),.va (eL L),.va (eS P),.em,.em]) (bJ (aM (ts:=[.tup [.tup cs,.tup ls]]) rfl R.events) rfl)]
  rw [az (ρ':=[.va (.tup [.tup cs,.tup ls]),.va (eL L),.va (eS P),.va .non,.em]) (bJ (t:=.non) rfl rfl)]
  rw [az (ρ':=tE (.tup [.tup cs,.tup ls]) L P .non (oT o)) (bJ (k_set e (aM (ts:=[eL L,.int 1,.int 0]) rfl (ny L 1 0 (by omega) (by decide) (by decide))) rfl) rfl)]
  #h
 cases o with
 | none=>
  &⟨none,a8 rfl (begin_ ?_),fun c n r=> ?_⟩
  ·rw [show FU=999999999999+1 from rfl,az (m7 (aY (au (t:=.non) (u:=.non) rfl rfl rfl)))]
   #bA rfl
  ·have:=mQ (show gy (less L 1 0)from fp) r
   have:=r.pos
   omega
 | some q=>
  &⟨s,_⟩:=Bar.sr (show Bar (less L 1 0) q from fp)
  &⟨q',a',s',tt,w⟩:=wI (.tup [.tup cs,.tup ls]) R.f R.nd R.bg R.ll hs 999999999999 .non q s (by
   have h1:=mu_le L.length (Gr.size L) (aO L q) q.length
   have h2:(2*Gr.size L+1)*L.length<=(2*59940+1)*60:=Nat.mul_le_mul (by omega) hl
   omega)
  &⟨some q',a8 rfl (begin_ ?_),tt⟩
  rw [show FU=999999999999+1 from rfl]
  &(az w).trans ?_
  #bA rfl
def pk (u:Int)(n:Nat)(k:Nat):Bool:=decide (u % ((k+1:Nat):Int)=0)&&decide ((n:Int) % ((k+1:Nat):Int)=0)
def kl (u:Int)(n:Nat):List Nat:=(List.range n).filter (pk u n)
def gm (u:Int)(n:Nat):Int:=match(kl u n).map (fun k=>((k+1:Nat):Int))with
 | i::r=>kP i r
 | [] =>1
&rP:∀ (l:List Int) (i:Int),kP i l∈i::l
 | [],i=>List.mem_cons_self
 | j::l,i=>by
  #,kP
  have:=rP l (if i<j then j else i)
  rcases List.mem_cons.mp this with h | h
  ·rw [h]
   split
   ·#List.mem_cons_of_mem _ List.mem_cons_self
   ·#List.mem_cons_self
  ·#List.mem_cons_of_mem _ (List.mem_cons_of_mem _ h)
&kl_ne {u:Int}{n:Nat}(h:1<=n):kl u n≠ []:=by
 have:0∈kl u n:=List.mem_filter.mpr ⟨List.mem_range.mpr h,by #,pk;simp⟩
 #fun z=>by rw [z]at this;cases this
&yu {u:Int}{n:Nat}(h:1<=n):∃ k:Nat,k<n/\gm u n=((k+1:Nat):Int)/\u % gm u n=0/\(n:Int) % gm u n=0:=by
 have key:gm u n∈(kl u n).map (fun k=>((k+1:Nat):Int)):=by
  #,gm
  cases q:(kl u n).map (fun k=>((k+1:Nat):Int))with
  | nil=>#absurd (List.map_eq_nil_iff.mp q) (kl_ne h)
  | cons i r=>#rP r i
 &⟨k,hk,e⟩:=List.mem_map.mp key
 &⟨h1,h2⟩:=List.mem_filter.mp hk
 unfold pk at h2
 rw [Bool.and_eq_true]at h2
 #⟨k,List.mem_range.mp h1,e.symm,by rw [<-e];#of_decide_eq_true h2.1,by rw [<-e];#of_decide_eq_true h2.2⟩
&yH {u:Int}{n:Nat}(h:1<=n)(hn:n<=1000):cZ [.int u,.int (n:Nat)] = .ok (.tup [.int (u / gm u n),.int ((n:Int) / gm u n)]):=by
 &⟨k,hk,ek,_,_⟩:=yu (u:=u) h
 &a8 rfl ?_
 show cq [.va (.int u),.va (.int (n:Nat)),.em] =_
 #,cq
 have lc:dv (iR (ac (cn (.int 1)) (ac (o2 aH (vr 1) (cn (.int 1))) ah))) [none,some 0,some 1] (gN 0) (jT (tb (o2 il (o2 fh (vr 1) (vr 0)) (cn (.int 0)))) (tb (o2 il (o2 fh (vr 2) (vr 0)) (cn (.int 0))))) (vr 0) [.va (.int u),.va (.int (n:Nat)),.em] = .ok (.lst ((kl u n).map fun k=> .int ((k+1:Nat):Int))):=by
  have hi:iR (ac (cn (.int 1)) (ac (o2 aH (vr 1) (cn (.int 1))) ah)) [.va (.int u),.va (.int (n:Nat)),.em] = .ok ((List.range n).map fun(k:Nat)=>T.int ((k+1:Nat):Int)):=by
   rw [iR2 (i:=1) (j:=((n+1:Nat):Int)) (al rfl (al (au (t:=.int (n:Nat)) (u:=.int 1) rfl rfl rfl) rfl)) (by omega) (by omega) (by omega) (by omega),ue (n+1) (by omega)]
   rfl
  have:=uL (ts:=(List.range n).map fun(k:Nat)=>T.int ((k+1:Nat):Int)) (p:=fun t=>match t with | .int i=>decide (u % i=0)&&decide ((n:Int) % i=0) | _=>false) (h:=id) (src:=[none,some 0,some 1]) (fc:=(jT (tb (o2 il (o2 fh (vr 1) (vr 0)) (cn (.int 0)))) (tb (o2 il (o2 fh (vr 2) (vr 0)) (cn (.int 0)))))) (fe:=vr 0) hi (aw (by rw [List.length_map,List.length_range];#hn) (by omega)) (by simp) (fun t ht=>by
   &⟨k,hk,rfl⟩:=List.mem_map.mp ht
   have p1:(0:Int)<((k+1:Nat):Int):=by omega
   &⟨k_and (aY (au (t:=.int (u % ((k+1:Nat):Int))) (u:=.int 0) (au (t:=.int u) (u:=.int ((k+1:Nat):Int)) rfl rfl (f9 p1)) rfl ((nv _ _).trans ?_))) fun _=>aY (au (t:=.int ((n:Int) % ((k+1:Nat):Int))) (u:=.int 0) (au (t:=.int (n:Nat)) (u:=.int ((k+1:Nat):Int)) rfl rfl (f9 p1)) rfl ((nv _ _).trans ?_)),fun _=>rfl⟩
   ·rw [Bool.beq_eq_decide_eq]
   ·rw [Bool.beq_eq_decide_eq])
  rw [this,List.map_id,List.filter_map]
  rfl
 rw [az (ρ':=[.va (.int u),.va (.int (n:Nat)),.va (.int (gm u n))]) (bJ (aM (al lc rfl) ?_) rfl)]
 ·have g0:0<gm u n:=by rw [ek];omega
  have g1:gm u n<1073741824:=by rw [ek];omega
  #bA (p2 (au (t:=.int u) (u:=.int (gm u n)) rfl rfl (jv g0 g1)) (au (t:=.int (n:Nat)) (u:=.int (gm u n)) rfl rfl (jv g0 g1)))
 ·show(match gP ((kl u n).map fun k=>T.int ((k+1:Nat):Int))with | some (i::ns)=>Rs.ok (T.int (kP i ns)) | _=> .bad)=_
  rw [fM fun k=>((k+1:Nat):Int)]
  #,gm
  cases q:(kl u n).map (fun k=>((k+1:Nat):Int))with
  | nil=>#absurd (List.map_eq_nil_iff.mp q) (kl_ne h)
  | cons i r=>rfl
def rmT (L:bf N2)(o:Option (List Nat)):T:=match o with
 | some q=> .tup [.int (aO L q / gm (aO L q) q.length),.int ((q.length:Int) / gm (aO L q) q.length)]
 | none=> .non
&Rd.room (R:Rd cs ls L P):∃ o,bn [.tup [.tup cs,.tup ls]] = .ok (oT o)/\u9 L o/\iM [.tup [.tup cs,.tup ls]] = .ok (rmT L o):=by
 &⟨o,e,tt⟩:=R.tight
 &⟨o,e,tt,a8 rfl ?_⟩
 show jU [.va (.tup [.tup cs,.tup ls]),.em] =_
 #,jU
 rw [az (ρ':=[.va (.tup [.tup cs,.tup ls]),.va (oT o)]) (bJ (aM (ts:=[.tup [.tup cs,.tup ls]]) rfl e) rfl)]
 cases o with
 | none=>#cz ((bY (aY (au (t:=.non) (u:=.non) rfl rfl rfl))).trans rfl)
 | some q=>
  have s:=tt.1
  &⟨l1,_⟩:=kc s
  have hl:=R.ll
  rw [az (ρ':=[.va (.tup [.tup cs,.tup ls]),.va (.lst (eN q))]) ((cF (aY (au (t:=.lst (eN q)) (u:=.non) rfl rfl rfl))).trans rfl)]
  #bA (aM (ts:=[.int (aO L q),.int (q.length:Nat)]) (al (aM (ts:=[eL L,.lst (eN q)]) (al (aM (ts:=[.tup [.tup cs,.tup ls]]) rfl R.bounds) rfl) (yE (wR s) (by omega))) (al (kR q rfl) rfl)) (yH s.pos (by omega)))
&pl_eN (w:List Nat):∀ u∈eN w,u.pl=true:=fun u hu=>by &⟨k,_,rfl⟩:=List.mem_map.mp hu;rfl
&frac {q:List Nat}(h:1<=q.length):∃ g:Int,0<g/\aO L q=(aO L q / gm (aO L q) q.length)*g/\(q.length:Int)=((q.length:Int) / gm (aO L q) q.length)*g/\0<(q.length:Int) / gm (aO L q) q.length:=by
 &⟨k,hk,e,h1,h2⟩:=yu (u:=aO L q) h
 &⟨gm (aO L q) q.length,by omega,?_,?_,?_⟩
 ·#(Int.ediv_mul_cancel (Int.dvd_of_emod_eq_zero h1)).symm
 ·#(Int.ediv_mul_cancel (Int.dvd_of_emod_eq_zero h2)).symm
 ·have:=(Int.ediv_mul_cancel (Int.dvd_of_emod_eq_zero h2))
  have g0:0<gm (aO L q) q.length:=by omega
  have:0<((q.length:Int) / gm (aO L q) q.length)*gm (aO L q) q.length:=by rw [this];omega
  #Int.lt_of_mul_lt_mul_right (by rw [Int.zero_mul];#this) (Int.le_of_lt g0)
end
def eG (L:bf N2)(k:Nat):N2:=match L[k]? with
 | some x=>x.1
 | none=>⟨0,0⟩
def jz (L:bf N2)(k:Nat):N2:=match L[k]? with
 | some x=>x.2.1
 | none=>⟨0,0⟩
def rndK (L:bf N2)(ks:List Nat):Bool:=match ks with
 | [] =>false
 | k::r=>decide (run L (eG L k) (k::r)=some (eG L k))
def jM (L:bf N2)(t:T):Bool:=iJ L.length t&&rndK L (vO t)
&tL (l:List T)(h:(T.lst l).pl=true):il (.lst l) (.lst [])= .ok (.bl l.isEmpty):=by
 #,il
 rw [if_pos (rY (by simp [T.dep,deps]) (T.pl_nd _ h) rfl)]
 cases l with
 | nil=>rfl
 | cons k r=>simp [aZ,beqTs]
&ix_end (l:List T)(h:l≠ []):aN (.lst l) (.int (-1))= .ok (l.getLast h):=by
 show(match L2.atI l (-1)with | some t=>Rs.ok t | none=> .bad)=_
 have hp:0<l.length:=List.length_pos_iff.mpr h
 have e:L2.atI l (-1)=some (l.getLast h):=by
  #,L2.atI L2.ixN
  rw [if_neg (by omega),if_pos (by omega)]
  show l[((-1:Int)+l.length).toNat]? =_
  rw [List.getLast_eq_getElem,show((-1:Int)+l.length).toNat=l.length - 1 by omega,List.getElem?_eq_getElem]
 rw [e]
section
variable {cs ls:List T}{L:bf N2}{P:List N2}{ns:List Int}
&pG:∀ {ks:List Nat} {a b:N2} {x:N2×N2×Int} (h:ks≠ []),run L a ks=some b->L[ks.getLast h]? =some x->b=x.2.1
 | [k],a,b,x,_,hr,hx=>by
  unfold run at hr
  rw [show L[k]? =some x from hx]at hr
  simp only at hr
  by_cases z:x.1=a
  ·rw [if_pos z,run]at hr;#(Option.some.inj hr).symm
  ·rw [if_neg z]at hr;cases hr
 | k::j::r,a,b,x,_,hr,hx=>by
  unfold run at hr
  cases e:L[k]? with
  | none=>rw [e]at hr;cases hr
  | some y=>
   rw [e]at hr
   simp only at hr
   by_cases z:y.1=a
   ·rw [if_pos z]at hr;#pG (ks:=j::r) (by simp) hr (by rwa [List.getLast_cons (by simp)]at hx)
   ·rw [if_neg z]at hr;cases hr
&rf {k:Nat}{r:List Nat}{a c:N2}(h:run L a (k::r)=some c):eG L k=a:=by
 unfold run at h
 #,eG
 cases e:L[k]? with
 | none=>rw [e]at h;cases h
 | some y=>
  rw [e]at h
  simp only at h ⊢
  by_cases z:y.1=a
  ·#z
  ·rw [if_neg z]at h;cases h
&e_lrd {t:T}(h:t.pl=true)(hl:∀ l,t= .lst l->l.length<=1000):dB [eL L,t] = .ok (.bl (jM L t)):=by
 &a8 rfl ?_
 show dE [.va (eL L),.va t,.em] =_
 #,dE jM rndK
 have nm:=kX L t h hl
 cases q:iJ L.length t with
 | false=>
  #cz ((bY (lj (cR (k:=false) (aY (aM (ts:=[eL L,t]) rfl (by rw [nm,q])))))).trans rfl)
 | true=>
  &⟨ks,rfl,hk⟩:=lK q
  have c:=gv (cR (k:=true) (aY (aM (g:=cx) (fs:=ac (vr 0) (ac (vr 1) ah)) (ρ:=[.va (eL L),.va (.lst (eN ks)),.em]) (ts:=[eL L,.lst (eN ks)]) rfl (by rw [nm,q])))) (aY (au (fa:=vr 1) (fb:=b7 ah) (t:=.lst (eN ks)) (u:=.lst []) rfl (d9 rfl (aw (k:=1) (by simp))) (tL _ h)))
  rw [jn]
  cases ks with
  | nil=>#cz ((bY c).trans rfl)
  | cons k r=>
   rw [az (ρ':=[.va (eL L),.va (.lst (eN (k::r))),.em]) ((cF c).trans rfl)]
   have hk0:=hk k List.mem_cons_self
   have e:L[k]? =some L[k]:=List.getElem?_eq_getElem hk0
   have sr:eG L k=L[k].1:=by #,eG;rw [e]
   rw [az (ρ':=[.va (eL L),.va (.lst (eN (k::r))),.va (en (eG L k))]) (bJ (t:=en (eG L k)) (au (t:=eB L[k]) (u:=.int 0) (nL rfl (uM (l:=eN (k::r)) (n:=0) rfl rfl rfl) e) rfl (by rw [sr];rfl)) rfl)]
   rcases e_leads (L:=L) (a:=eG L k) (b:=eG L k) h hl with⟨z,_⟩ | ⟨ks',ek,_,e2⟩
   ·rw [q]at z;cases z
   ·have:ks'=k::r:=by have:=congrArg vO ek;rw [jn,jn]at this;#this.symm
    subst this
    #bA (aM (ts:=[eL L,en (eG L k),en (eG L k),.lst (eN (k::r))]) rfl (by rw [e2,Bool.true_and]))
&ud:∀ (r:List Nat) (q:Nat),(∀k∈r,k<L.length)->((run L (jz L q) r).isSome=true↔ ∀i,(hi:i<r.length)->jz L ((q::r)[i]'(by simp;omega))=eG L r[i])
 | [],q,_=>⟨fun _ i hi=>by simp at hi,fun _=>rfl⟩
 | k::r,q,h=>by
  have hk0:k<L.length:=h k List.mem_cons_self
  have e:L[k]? =some L[k]:=List.getElem?_eq_getElem hk0
  have s:eG L k=L[k].1:=by #,eG;rw [e]
  have d:jz L k=L[k].2.1:=by #,jz;rw [e]
  have ih:=ud r k fun j hj=>h j (List.mem_cons_of_mem _ hj)
  #,run
  rw [e]
  simp only
  constructor
  ·intro z i hi
   by_cases w:L[k].1=jz L q
   ·rw [if_pos w,<-d]at z
    cases i with
    | zero=>show jz L q=eG L k;rw [s,w]
    | succ i=>#ih.mp z i (by simp at hi;omega)
   ·rw [if_neg w]at z;cases z
  ·intro z
   have z0:=z 0 (by simp)
   have z0:jz L q=eG L k:=z0
   rw [if_pos (by rw [z0,s]),<-d]
   #ih.mpr fun i hi=>z (i+1) (by simp;omega)
&rnd_run {ks:List Nat}(hne:ks≠ [])(hk:∀ k∈ks,k<L.length):rndK L ks=(run L (jz L (ks.getLast hne)) ks).isSome:=by
 have hlast:=hk _ (List.getLast_mem hne)
 have e:L[ks.getLast hne]? =some L[ks.getLast hne]:=List.getElem?_eq_getElem hlast
 have de:jz L (ks.getLast hne)=L[ks.getLast hne].2.1:=by #,jz;rw [e]
 &⟨k,r,rfl⟩:=List.exists_cons_of_ne_nil hne
 show decide (run L (eG L k) (k::r)=some (eG L k))=_
 cases rr:run L (jz L ((k::r).getLast hne)) (k::r)with
 | none=>
  have:¬ run L (eG L k) (k::r)=some (eG L k):=fun z=>by
   have:=pG hne z e
   rw [de,<-this]at rr
   rw [z]at rr
   cases rr
  rw [decide_eq_false this];rfl
 | some b=>
  have e3:=rf rr
  have e4:=pG hne rr e
  rw [<-e3]at rr
  rw [decide_eq_true (by rw [rr,e4,<-de,<-e3])];rfl
abbrev ldC:En->Rs Fl:=(eI (kF (du (tb (o1 (nS "int") (vr 2)))) (kF (tb (o1 (nS "bool") (vr 2))) (du (tb (ch leT mS (cn (.int 0)) (vr 2) (cl bL (ac (vr 0) ah))))))) (aL (cn (.bl false))) sN)
&ldC_at (t:T)(u:T)(h:u.pl=true):ldC [.va (eL L),.va t,.va u] =if aQ u 0 ((L.length:Int) - 1)then .ok (.nx [.va (eL L),.va t,.va u])else .ok (.rt (.bl false)):=by
 have no:nS "int" u= .ok (.bl false)->aQ u 0 ((L.length:Int) - 1)=false->ldC [.va (eL L),.va t,.va u] =if aQ u 0 ((L.length:Int) - 1)then .ok (.nx [.va (eL L),.va t,.va u])else .ok (.rt (.bl false)):=fun e w=>by
  rw [w]
  #(bY (lj (cR (k:=false) (aY (om (t:=u) rfl e))))).trans rfl
 cases u with
 | int i=>
  have c:ch leT mS (cn (.int 0)) (vr 2) (cl bL (ac (vr 0) ah)) [.va (eL L),.va t,.va (.int i)] = .ok (.bl (aQ (.int i) 0 ((L.length:Int) - 1))):=by
   #,ch
   show(match T.bl (decide (0<=i))with
    | .bl true=>(cl bL (ac (vr 0) ah) [.va (eL L),.va t,.va (.int i)]) >>= fun w=>mS (.int i) w
    | .bl false=>Rs.ok (.bl false)
    | _=> .bad)=_
   rw [show aQ (.int i) 0 ((L.length:Int) - 1)=(decide (0<=i)&&decide (i<=(L.length:Int) - 1))from rfl]
   by_cases h0:0<=i
   ·rw [decide_eq_true h0]
    simp only
    rw [tp L rfl,aD]
    show Rs.ok (T.bl (decide (i<((L.length:Nat):Int))))=_
    rw [Bool.true_and]
    congr 2
    #decide_eq_decide.mpr (by omega)
   ·rw [decide_eq_false h0];rfl
  have z:=gv (cR (k:=true) (aY (om (t:=.int i) (ρ:=[.va (eL L),.va t,.va (.int i)]) (fa:=vr 2) (g:=nS "int") rfl rfl))) (gv (aY (om (t:=.int i) (ρ:=[.va (eL L),.va t,.va (.int i)]) (fa:=vr 2) (g:=nS "bool") rfl rfl)) (cR (aY c)))
  cases q:aQ (.int i) 0 ((L.length:Int) - 1)with
  | true=>rw [q]at z;#(cF z).trans rfl
  | false=>rw [q]at z;#(bY z).trans rfl
 | bl b=>#(bY (gv (cR (k:=true) (aY (om (t:=.bl b) rfl rfl))) (lj (aY (om (t:=.bl b) rfl rfl))))).trans rfl
 | non=>#no rfl rfl
 | str s=>#no rfl rfl
 | tup l=>#no rfl rfl
 | lst l=>#no rfl rfl
 | scr l=>cases h
 | dct _ _=>cases h
&r9 (t:T)(h:t.pl=true)(hz:∀ l,t= .lst l->l.length<=1000):ci [eL L,t] = .ok (.bl (jM L t)):=by
 &a8 rfl ?_
 show eC [.va (eL L),.va t,.em] =_
 #,eC
 have no:∀ {F:En->Rs Fl},nS "list" t= .ok (.bl false)->jM L t=false->(ax (eI (kF (du (tb (o1 (nS "list") (vr 1)))) (tb (o2 il (vr 1) (b7 ah)))) (aL (cn (.bl false))) sN) F) [.va (eL L),.va t,.em] = .ok (.rt (.bl (jM L t))):=fun {F} e w=>by
  rw [w]
  #cz ((bY (lj (cR (k:=false) (aY (om (t:=t) rfl e))))).trans rfl)
 cases t with
 | lst l=>
  have hz:=hz l rfl
  have c:=gv (cR (k:=true) (aY (om (g:=nS "list") (fa:=vr 1) (ρ:=[.va (eL L),.va (.lst l),.em]) (t:=.lst l) rfl rfl))) (aY (au (fa:=vr 1) (fb:=b7 ah) (t:=.lst l) (u:=.lst []) rfl (d9 rfl (aw (k:=1) (by simp))) (tL l h)))
  cases l with
  | nil=>#cz ((bY c).trans rfl)
  | cons u0 l0=>
   rw [az (ρ':=[.va (eL L),.va (.lst (u0::l0)),.em]) ((cF c).trans rfl)]
   generalize hl:u0::l0=l
   rw [hl]at h hz
   have la:=mT (g:=gN 2) (F:=ldC) (p:=fun t=>aQ t 0 ((L.length:Int) - 1)) (fun ρ=> ∃s2,ρ= [.va (eL L),.va (.lst l),s2]) l (fun t ht ρ hh_=>by
    &⟨s2,e⟩:=hh_
    subst e
    have c:=ldC_at (L:=L) (.lst l) t (gX (pO▸h) ht)
    &⟨_,rfl,fun q=>⟨_,?_,.va t,rfl⟩,fun q=> ?_⟩
    ·rw [q]at c;#c
    ·rw [q]at c;#c) [.va (eL L),.va (.lst l),.em] ⟨_,rfl⟩
   cases q:l.all fun u=>aQ u 0 ((L.length:Int) - 1)with
   | false=>
    rw [cz (dq (ts:=l) (gQ rfl) (la.2 q))]
    have:jM L (.lst l)=false:=by #,jM;rw [show iJ L.length (.lst l)=false from q];rfl
    rw [this]
   | true=>
    &⟨_,e1,s2,rfl⟩:=la.1 q
    &⟨ks,ek,hk⟩:=lK (n:=L.length) (t:=.lst l) q
    cases ek
    rw [az (dq (ts:=eN ks) (gQ rfl) e1)]
    have hne:ks≠ []:=fun z=>by subst z;cases hl
    have hne2:eN ks≠ []:=fun z=>hne (List.map_eq_nil_iff.mp z)
    have hlen:(eN ks).length=ks.length:=List.length_map _
    have hz:ks.length<=1000:=by rw [<-hlen];#hz
    #,jM
    rw [jn,mL hk,Bool.true_and,rnd_run hne hk]
    have hlast:=List.getLast_mem hne
    generalize hq:ks.getLast hne=w at hlast
    have prev:∀ i,(hi:i<ks.length)->aN (.lst (eN ks)) (.int ((i:Int) - 1))= .ok (.int (((w::ks)[i]'(by simp;omega):Nat):Int)):=fun i hi=>by
     cases i with
     | zero=>
      rw [show((0:Nat):Int) - 1= -1 by omega,ix_end (eN ks) hne2]
      subst hq
      simp only [List.getLast_eq_getElem,eN,List.getElem_map,List.length_map,List.getElem_cons_zero]
     | succ i=>
      rw [show((i+1:Nat):Int) - 1=(i:Int)by omega,List.getElem_cons_succ]
      #ye (by #,eN;rw [List.getElem?_map,List.getElem?_eq_getElem (by omega)];rfl)
    have wlt:∀ i,(hi:i<ks.length)->(w::ks)[i]'(by simp;omega)<L.length:=fun i hi=>by
     have:=List.getElem_mem (l:=w::ks) (n:=i) (by simp;omega)
     rcases List.mem_cons.mp this with z | z
     ·rw [z];#hk _ hlast
     ·#hk _ z
    have lc:=uL (fi:=iR (ac (cl bL (ac (vr 1) ah)) ah)) (src:=[none,some 0,some 1]) (ρ:=[.va (eL L),.va (.lst (eN ks)),s2]) (ts:=rng 0 (ks.length:Nat)) (fe:=vr 0) (h:=id)
     (fc:=(tb (o2 lz (o2 aN (o2 aN (vr 1) (o2 aN (vr 2) (o2 cQ (vr 0) (cn (.int 1))))) (cn (.int 1))) (o2 aN (o2 aN (vr 1) (o2 aN (vr 2) (vr 0))) (cn (.int 0))))))
     (p:=fun t=>match t with | .int i=> !decide (jz L ((w::ks)[i.toNat]?.getD 0)=eG L (ks[i.toNat]?.getD 0)) | _=>false)
     (iR1 (j:=(ks.length:Nat)) (al (kR ks rfl) rfl) (by omega) (by omega)) (aw (k:=1000) (by rw [fI];omega)) (by simp) (fun t ht=>by
      &⟨k,rfl,hk1⟩:=fH ht
      have hk1:k<ks.length:=by omega
      have a1:=wlt k hk1
      have a2:=hk _ (List.getElem_mem hk1)
      have b1:L[(w::ks)[k]'(by simp;omega)]? =some (L[(w::ks)[k]'(by simp;omega)]'a1):=List.getElem?_eq_getElem a1
      have b2:L[ks[k]]? =some (L[ks[k]]'a2):=List.getElem?_eq_getElem a2
      have d1:jz L ((w::ks)[k]'(by simp;omega))=(L[(w::ks)[k]'(by simp;omega)]'a1).2.1:=by #,jz;rw [b1]
      have d2:eG L ks[k] =(L[ks[k]]'a2).1:=by #,eG;rw [b2]
      &⟨?_,fun _=>rfl⟩
      show _=Rs.ok (!decide (jz L ((w::ks)[(k:Int).toNat]?.getD 0)=eG L (ks[(k:Int).toNat]?.getD 0)))
      rw [Int.toNat_natCast,List.getElem?_eq_getElem (by simp;omega),List.getElem?_eq_getElem hk1]
      show _=Rs.ok (!decide (jz L ((w::ks)[k]'(by simp;omega))=eG L ks[k]))
      rw [d1,d2]
      #aY (au (au (u:=.int 1) (nL rfl (au (t:=.lst (eN ks)) (u:=.int ((k:Int) - 1)) rfl (au (t:=.int (k:Nat)) (u:=.int 1) rfl rfl rfl) (prev k hk1)) b1) rfl rfl) (au (u:=.int 0) (nL rfl (uM (l:=eN ks) (n:=k) rfl rfl (by #,eN;rw [List.getElem?_map,List.getElem?_eq_getElem hk1];rfl)) b2) rfl rfl) (ne_en _ _)))
    rw [List.map_id]at lc
    &bA (au (u:=.lst []) lc (d9 rfl (aw (k:=1) (by simp))) ((tL _ ?_).trans ?_))
    ·rw [pO]
     #pP fun u hu=>by &⟨k,rfl,_⟩:=fH (List.mem_filter.mp hu).1;rfl
    ·&congrArg (fun b=>Rs.ok (T.bl b)) ?_
     have key:=ud (L:=L) ks w hk
     have g1:∀ i,(hi:i<ks.length)->(w::ks)[((i:Nat):Int).toNat]?.getD 0=(w::ks)[i]'(by simp;omega):=fun i hi=>by rw [Int.toNat_natCast,List.getElem?_eq_getElem (by simp;omega)];rfl
     have g2:∀ i,(hi:i<ks.length)->ks[((i:Nat):Int).toNat]?.getD 0=ks[i]:=fun i hi=>by rw [Int.toNat_natCast,List.getElem?_eq_getElem hi];rfl
     rw [Bool.eq_iff_iff,key,List.isEmpty_iff,List.filter_eq_nil_iff]
     constructor
     ·intro z i hi
      have:=z (.int (i:Nat)) (uv hi)
      simp only [g1 i hi,g2 i hi]at this
      simpa using this
     ·intro z t ht
      &⟨k,rfl,hk1⟩:=fH ht
      have hk1:k<ks.length:=by omega
      simp only [g1 k hk1,g2 k hk1]
      simpa using z k hk1
 | non=>#no rfl rfl
 | bl c=>#no rfl rfl
 | int c=>#no rfl rfl
 | str c=>#no rfl rfl
 | tup c=>#no rfl rfl
 | scr l=>cases h
 | dct _ _=>cases h
end
structure Flat (l:List T):Prop where
 len:l.length<=60
 pl:∀ u∈l,u.pl=true
def Ok (t:T):Prop:=t.pl=true/\∀ l,t= .lst l->l.length<=1000
&gD {l:List T}(h:∀ u∈l,u.pl=true)(hl:l.length<=1000):Ok (.lst l):=⟨by rw [pO];#pP h,fun m e=>by cases e;#hl⟩
&ne_bl (b:Bool):lz (.bl b) (.bl b)= .ok (.bl false):=ut rfl (by simp [T.dep])
&lI {f g:En->Rs T}{ρ:En}{l:List T}{n:Nat}(h:f ρ= .ok (.lst l))(h2:g ρ= .ok (.int (n:Nat))):sl f pN (pS g) ρ= .ok (.lst (l.take n)):=by rw [x9 h rfl (k_pS h2),sk]
&lJ {f g:En->Rs T}{ρ:En}{l:List T}{n:Nat}(h:f ρ= .ok (.lst l))(h2:g ρ= .ok (.int (n:Nat))):sl f (pS g) pN ρ= .ok (.lst (l.drop n)):=by rw [x9 h (k_pS h2) rfl,sy]
&qh {g:T->En->Rs En}{fe:En->Rs T}{h:T->T}(I:En->Prop):∀ (ts:List T) (ρ:En),I ρ->(∀t∈ts,∀ρ,I ρ->∃ ρ1,g t ρ= .ok ρ1/\I ρ1/\fe ρ1= .ok (h t))->cW g bT fe ts ρ= .ok (ts.map h)
 | [],_,_,_=>rfl
 | t::r,ρ,hI,hf=>by
  &⟨ρ1,e1,i1,e2⟩:=hf t List.mem_cons_self ρ hI
  have ih:=qh I r ρ1 i1 fun u hu=>hf u (List.mem_cons_of_mem _ hu)
  #,cW
  simp only [e1,aD,bT,if_true,e2,ih,List.map_cons]
section
variable {cs ls:List T}{L:bf N2}{P:List N2}{ns:List Int}
structure Fr (C N u d:Int):Prop where
 e1:∃ g,0<g/\C=u*g/\N=d*g
 d0:0<d
 dn:d<=N
&Fr.same {C N u d:Int}(f:Fr C N u d):C*d=u*N:=by
 &⟨g,_,rfl,rfl⟩:=f.e1
 rw [Int.mul_assoc,Int.mul_comm g d]
&wM {ks:List Nat}(hk:∀ k∈ks,k<L.length)(hl:ks.length<=1000){f:En->Rs T}{ρ:En}{j:Nat}(hf:f ρ= .ok (.lst (eN ks)))(hE:bz [none,some j] ρ= [.em,.va (eL L)]):cl sO (ac (dv (iS f) [none,some j] (gN 0) bT (o2 aN (o2 aN (vr 1) (vr 0)) (cn (.int 2)))) ah) ρ= .ok (.int (aO L ks)):=by
 have e:dv (iS f) [none,some j] (gN 0) bT (o2 aN (o2 aN (vr 1) (vr 0)) (cn (.int 2))) ρ= .ok (.lst ((eN ks).map fun t=>match t with | .int i=> .int (most L i.toNat) | _=> .non)):=
  ng (ts:=eN ks) (gQ hf) (aw (by #,eN;rw [List.length_map];#hl) (by omega)) (by simp) fun t ht=>by
   &⟨k,h,rfl⟩:=List.mem_map.mp ht
   have h:=hk k h
   have e:L[k]? =some L[k]:=List.getElem?_eq_getElem h
   rw [hE]
   &(au (t:=eB L[k]) (u:=.int 2) (nL rfl rfl e) rfl rfl).trans ?_
   show Rs.ok (T.int L[k].2.2)= .ok (.int (most L (k:Int).toNat))
   rw [Int.toNat_natCast,most,e]
 &aM (al e rfl) ?_
 have:((eN ks).map fun t=>match t with | .int i=>T.int (most L i.toNat) | _=> .non)=ks.map fun k=>T.int (most L k):=by
  #,eN
  rw [List.map_map]
  #List.map_congr_left fun k _=>by show T.int (most L (k:Int).toNat)=_;rw [Int.toNat_natCast]
 rw [this]
 show(match gP (ks.map fun k=>T.int (most L k))with | some ns=>Rs.ok (T.int ns.sum) | none=> .bad)=_
 rw [fM]
 show Rs.ok (T.int (ks.map (most L)).sum)=_
 rw [nF]
def lv (L:bf N2)(u d:Int)(t:T):Bool:=jM L t&&decide (aO L (vO t)*d<=u*((vO t).length:Nat))
&wX {t:T}(h:jM L t=true):∃ ks,t= .lst (eN ks)/\(∀k∈ks,k<L.length)/\vO t=ks:=by
 unfold jM at h
 rw [Bool.and_eq_true]at h
 &⟨ks,rfl,hk⟩:=lK h.1
 #⟨ks,rfl,hk,jn ks⟩
&e_frac {u d:Int}(hd:0<d):dC [.tup [.int u,.int d]] = .ok (.bl true):=by
 &a8 rfl (bA ?_)
 &(gF (aM (ts:=[.tup [.int u,.int d],.int ((2:Nat):Int),.int ((2:Nat):Int)]) rfl ((iX _ 2 2 rfl).trans rfl))).trans ?_
 &(gF (aM (ts:=[.int u]) (al (au (t:=.tup [.int u,.int d]) (u:=.int 0) rfl rfl rfl) rfl) rfl)).trans ?_
 &(gF (aM (ts:=[.int d]) (al (au (t:=.tup [.int u,.int d]) (u:=.int 1) rfl rfl rfl) rfl) rfl)).trans ?_
 &au (t:=.int d) (u:=.int 0) (au (t:=.tup [.int u,.int d]) (u:=.int 1) rfl rfl rfl) rfl ?_
 show Rs.ok (T.bl (decide (0<d)))=_
 rw [decide_eq_true hd]
&Rd.showsg (R:Rd cs ls L P){t:T}(h:Ok t){u d:Int}(hd:0<d)(hd2:d<=1000):cb [(.tup [.tup cs,.tup ls]),.tup [.int u,.int d],t] = .ok (.bl (lv L u d t)):=by
 &a8 rfl ?_
 show cP [.va (.tup [.tup cs,.tup ls]),.va (.tup [.int u,.int d]),.va t,.em] =_
 #,cP
 rw [az (ρ':=[.va (.tup [.tup cs,.tup ls]),.va (.tup [.int u,.int d]),.va t,.va (eL L)]) (bJ (aM (ts:=[(.tup [.tup cs,.tup ls])]) rfl R.bounds) rfl)]
 have c:=gv (cR (k:=true) (aY (aM (g:=dC) (ρ:=[.va (.tup [.tup cs,.tup ls]),.va (.tup [.int u,.int d]),.va t,.va (eL L)]) (fs:=ac (vr 1) ah) (ts:=[.tup [.int u,.int d]]) rfl (e_frac hd)))) (cR (aY (aM (g:=dB) (fs:=ac (vr 3) (ac (vr 2) ah)) (ts:=[eL L,t]) rfl (e_lrd (L:=L) h.1 h.2))))
 cases q:jM L t with
 | false=>
  rw [q]at c
  have:lv L u d t=false:=by #,lv;rw [q];rfl
  rw [this]
  #cz ((bY c).trans rfl)
 | true=>
  rw [q]at c
  &⟨ks,rfl,hk,ek⟩:=wX q
  have hl:=h.2 _ rfl
  unfold eN at hl
  rw [List.length_map]at hl
  rw [az (ρ':=[.va (.tup [.tup cs,.tup ls]),.va (.tup [.int u,.int d]),.va (.lst (eN ks)),.va (eL L)]) ((cF c).trans rfl)]
  have:lv L u d (.lst (eN ks))=decide (aO L ks*d<=u*(ks.length:Nat)):=by #,lv;rw [q,ek];rfl
  rw [this]
  #bA (au (t:=.int (aO L ks*d)) (u:=.int (u*(ks.length:Nat))) (au (t:=.int (aO L ks)) (u:=.int d) (aM (ts:=[eL L,.lst (eN ks)]) rfl (yE hk hl)) (au (t:=.tup [.int u,.int d]) (u:=.int 1) rfl rfl rfl) (iK (by omega) (by omega))) (au (t:=.int u) (u:=.int (ks.length:Nat)) (au (t:=.tup [.int u,.int d]) (u:=.int 0) rfl rfl rfl) (kR ks rfl) (iK (by omega) (by omega))) rfl)
&yG {t:T}(h:Ok t){u d:Int}(hd:0<d)(hd2:d<=1000):d7 [eL L,.tup [.int u,.int d],t] = .ok (.bl (lv L u d t)):=by
 &a8 rfl ?_
 show ez [.va (eL L),.va (.tup [.int u,.int d]),.va t] =_
 #,ez
 have c:=cR (aY (aM (g:=ci) (fs:=ac (vr 0) (ac (vr 2) ah)) (ρ:=[.va (eL L),.va (.tup [.int u,.int d]),.va t]) (ts:=[eL L,t]) rfl (r9 (L:=L) t h.1 h.2)))
 cases q:jM L t with
 | false=>
  rw [q]at c
  have:lv L u d t=false:=by #,lv;rw [q];rfl
  rw [this]
  #cz ((bY c).trans rfl)
 | true=>
  rw [q]at c
  &⟨ks,rfl,hk,ek⟩:=wX q
  have hl:=h.2 _ rfl
  unfold eN at hl
  rw [List.length_map]at hl
  rw [az (ρ':=[.va (eL L),.va (.tup [.int u,.int d]),.va (.lst (eN ks))]) ((cF c).trans rfl)]
  have:lv L u d (.lst (eN ks))=decide (aO L ks*d<=u*(ks.length:Nat)):=by #,lv;rw [q,ek];rfl
  rw [this]
  #bA (au (t:=.int (aO L ks*d)) (u:=.int (u*(ks.length:Nat))) (au (t:=.int (aO L ks)) (u:=.int d) (wM hk hl rfl rfl) (au (t:=.tup [.int u,.int d]) (u:=.int 1) rfl rfl rfl) (iK (by omega) (by omega))) (au (t:=.int u) (u:=.int (ks.length:Nat)) (au (t:=.tup [.int u,.int d]) (u:=.int 0) rfl rfl rfl) (kR ks rfl) (iK (by omega) (by omega))) rfl)
&uw:∀ (l:List Int) (i:Int),∀x∈i::l,x<=kP i l
 | [],i,x,h=>by rw [List.mem_singleton.mp h];#Int.le_refl _
 | j::l,i,x,h=>by
  #,kP
  have a:=uw l (if i<j then j else i)
  have top:=a _ List.mem_cons_self
  rcases List.mem_cons.mp h with rfl | h
  ·split at top <;> rename_i z <;> simp only [z,if_true,if_false] <;> omega
  ·rcases List.mem_cons.mp h with rfl | h
   ·split at top <;> rename_i z <;> simp only [z,if_true,if_false] <;> omega
   ·#a x (List.mem_cons_of_mem _ h)
&gm_max {u:Int}{n k:Nat}(hk:k<n)(h:pk u n k=true):((k+1:Nat):Int)<=gm u n:=by
 have m:((k+1:Nat):Int)∈(kl u n).map (fun k=>((k+1:Nat):Int)):=List.mem_map.mpr ⟨k,List.mem_filter.mpr ⟨List.mem_range.mpr hk,h⟩,rfl⟩
 #,gm
 cases q:(kl u n).map (fun k=>((k+1:Nat):Int))with
 | nil=>rw [q]at m;cases m
 | cons i r=>rw [q]at m;#uw r i _ m
&lowest {C:Int}{n:Nat}(hn:1<=n){k:Int}(hk:2<=k):¬ ((C / gm C n) % k=0/\((n:Int) / gm C n) % k=0):=fun⟨h1,h2⟩=>by
 &⟨j,hj,ej,d1,d2⟩:=yu (u:=C) hn
 generalize eg:gm C n=g at*
 have g0:0<g:=by omega
 have c1:C=C / g*g:=(Int.ediv_mul_cancel (Int.dvd_of_emod_eq_zero d1)).symm
 have c2:(n:Int)=n / g*g:=(Int.ediv_mul_cancel (Int.dvd_of_emod_eq_zero d2)).symm
 have v1:k*g ∣ C:=by rw [c1];#Int.mul_dvd_mul (Int.dvd_of_emod_eq_zero h1) (Int.dvd_refl g)
 have v2:k*g ∣ (n:Int):=by rw [c2];#Int.mul_dvd_mul (Int.dvd_of_emod_eq_zero h2) (Int.dvd_refl g)
 have kg:0<k*g:=Int.mul_pos (by omega) g0
 have le:k*g<=n:=Int.le_of_dvd (by omega) v2
 &⟨m,hm⟩:=Int.eq_ofNat_of_zero_le (Int.le_of_lt kg)
 have m1:1<=m:=by omega
 have mk:pk C n (m - 1)=true:=by
  #,pk
  rw [show m - 1+1=m by omega,<-hm,decide_eq_true (Int.emod_eq_zero_of_dvd v1),decide_eq_true (Int.emod_eq_zero_of_dvd v2)]
  rfl
 have:=gm_max (u:=C) (n:=n) (by omega) mk
 rw [eg]at this
 have two:2*g<=k*g:=Int.mul_le_mul_of_nonneg_right hk (Int.le_of_lt g0)
 omega
end
abbrev wE (ns:List Int)(R:T)(P:List N2)(L:bf N2)(v4 v5:T)(s6 s7 s8 s9 s10 s11 s12 s13 s14 s15:Sl):En:=[.va (.scr ns),.va R,.va (eS P),.va (eL L),.va v4,.va v5,s6,s7,s8,s9,s10,s11,s12,s13,s14,s15]
def sG (l:List T)(n:Nat)(o:T):List T:=[.lst l,.lst (l.take n++l.drop (n+1)),.lst (l.take (n+1)++l.drop n),.lst (l.take n++ [o] ++l.drop (n+1))]
def sK (l:List T)(n:Nat):List T:=[.lst (l.drop n++l.take n),.lst l.reverse,.lst (l++l),.lst []]
def lu (l:List T):List T:=[.tup l,.non,.lst [.int 0],.lst [.int 0,.int 1]]
&th_ok {l:List T}(hl:Flat l)(n:Nat){o:T}(po:o.pl=true):∀ t∈sG l n o++sK l n++lu l,Ok t:=fun t ht=>by
 have h60:=hl.len
 have lt:∀ k,(l.take k).length<=60:=fun k=>by rw [List.length_take];omega
 have ld:∀ k,(l.drop k).length<=60:=fun k=>by rw [List.length_drop];omega
 have pt:∀ k,∀u∈l.take k,u.pl=true:=fun k u hu=>hl.pl u (List.mem_of_mem_take hu)
 have pd:∀ k,∀u∈l.drop k,u.pl=true:=fun k u hu=>hl.pl u (List.mem_of_mem_drop hu)
 have app:∀ {x y:List T},(∀u∈x,u.pl=true)->(∀u∈y,u.pl=true)->∀ u∈x++y,u.pl=true:=fun hx hy u hu=>(List.mem_append.mp hu).elim (hx u) (hy u)
 have po1:∀ u∈ [o],u.pl=true:=fun u hu=>by rw [List.mem_singleton.mp hu];#po
 have:=lt n;have:=lt (n+1);have:=ld n;have:=ld (n+1)
 unfold sG sK lu at ht
 simp only [List.cons_append,List.nil_append,List.mem_cons,List.not_mem_nil,or_false]at ht
 rcases ht with rfl | rfl | rfl | rfl | rfl | rfl | rfl | rfl | rfl | rfl | rfl | rfl
 ·#gD hl.pl (by omega)
 ·#gD (app (pt _) (pd _)) (by rw [List.length_append];omega)
 ·#gD (app (pt _) (pd _)) (by rw [List.length_append];omega)
 ·#gD (app (app (pt _) po1) (pd _)) (by simp only [List.length_append,List.length_cons,List.length_nil];omega)
 ·#gD (app (pd _) (pt _)) (by rw [List.length_append];omega)
 ·#gD (fun u hu=>hl.pl u (List.mem_reverse.mp hu)) (by rw [List.length_reverse];omega)
 ·#gD (app hl.pl hl.pl) (by rw [List.length_append];omega)
 ·#gD (fun u hu=>nomatch hu) (by simp)
 ·#⟨by rw [pM];#pP hl.pl,fun m e=>nomatch e⟩
 ·#⟨rfl,fun m e=>nomatch e⟩
 ·#gD (fun u hu=>by rw [List.mem_singleton.mp hu];rfl) (by simp)
 ·#⟨rfl,fun m e=>by cases e;simp⟩
section
variable {cs ls:List T}{L:bf N2}{P:List N2}{ns:List Int}
abbrev W15:En->Rs Fl:=(eI (tb (o2 lz (cl cb (ac (vr 1) (ac (vr 15) (ac (vr 14) ah)))) (cl d7 (ac (vr 3) (ac (vr 15) (ac (vr 14) ah)))))) (aL (cn (.bl false))) sN)
abbrev W13:En->Rs Fl:=(dA (iS (aW (ac (vr 4) (ac (vr 13) (ac (aW (ac (o2 cQ (o2 aN (vr 4) (cn (.int 0))) (cn (.int 1))) (ac (o2 aN (vr 4) (cn (.int 1))) ah))) (ac (aW (ac (o2 aH (o2 aN (vr 4) (cn (.int 0))) (cn (.int 1))) (ac (o2 aN (vr 4) (cn (.int 1))) ah))) ah)))))) (gN 15) W15)
&Rd.w15 (R:Rd cs ls L P){t:T}(h:Ok t){a b:Int}(hb:0<b)(hb2:b<=1000)(v4 v5:T)(s6 s7 s8 s9 s10 s11 s12 s13:Sl) :
  W15 (wE ns (.tup [.tup cs,.tup ls]) P L v4 v5 s6 s7 s8 s9 s10 s11 s12 s13 (.va t) (.va (.tup [.int a,.int b])))= .ok (.nx (wE ns (.tup [.tup cs,.tup ls]) P L v4 v5 s6 s7 s8 s9 s10 s11 s12 s13 (.va t) (.va (.tup [.int a,.int b])))):=
 (cF (aY (au (t:=.bl (lv L a b t)) (u:=.bl (lv L a b t)) (aM (ts:=[(.tup [.tup cs,.tup ls]),.tup [.int a,.int b],t]) rfl (R.showsg h hb hb2)) (aM (ts:=[eL L,.tup [.int a,.int b],t]) rfl (yG h hb hb2)) (ne_bl _)))).trans rfl
&Rd.w13 (R:Rd cs ls L P){t:T}(h:Ok t){u d a b:Int}(hd:0<d)(hd2:d<=1000)(hb:0<b)(hb2:b<=1000)(v5:T)(s6 s7 s8 s9 s10 s11 s12 s15:Sl):∃ s15',
  W13 (wE ns (.tup [.tup cs,.tup ls]) P L (.tup [.int u,.int d]) v5 s6 s7 s8 s9 s10 s11 s12 (.va (.tup [.int a,.int b])) (.va t) s15)= .ok (.nx (wE ns (.tup [.tup cs,.tup ls]) P L (.tup [.int u,.int d]) v5 s6 s7 s8 s9 s10 s11 s12 (.va (.tup [.int a,.int b])) (.va t) s15')):=by
 &⟨ρ',lo,s,rfl⟩:=oJ (g:=gN 15) (F:=W15) (fun ρ=> ∃s,ρ=wE ns (.tup [.tup cs,.tup ls]) P L (.tup [.int u,.int d]) v5 s6 s7 s8 s9 s10 s11 s12 (.va (.tup [.int a,.int b])) (.va t) s) (ts:=[T.tup [.int u,.int d],.tup [.int a,.int b],.tup [.int (u - 1),.int d],.tup [.int (u+1),.int d]])
  (fun x hx ρ hh=>by
   &⟨s,hρ⟩:=hh
   subst hρ
   simp only [List.mem_cons,List.not_mem_nil,or_false]at hx
   rcases hx with rfl | rfl | rfl | rfl
   ·#⟨_,_,rfl,R.w15 h hd hd2 _ _ _ _ _ _ _ _ _ _,_,rfl⟩
   ·#⟨_,_,rfl,R.w15 h hb hb2 _ _ _ _ _ _ _ _ _ _,_,rfl⟩
   ·#⟨_,_,rfl,R.w15 h hd hd2 _ _ _ _ _ _ _ _ _ _,_,rfl⟩
   ·#⟨_,_,rfl,R.w15 h hd hd2 _ _ _ _ _ _ _ _ _ _,_,rfl⟩) (ρ:=wE ns (.tup [.tup cs,.tup ls]) P L (.tup [.int u,.int d]) v5 s6 s7 s8 s9 s10 s11 s12 (.va (.tup [.int a,.int b])) (.va t) s15) ⟨_,rfl⟩
 &⟨s,dq (k_iS (cm (ts:=[T.tup [.int u,.int d],.tup [.int a,.int b],.tup [.int (u - 1),.int d],.tup [.int (u+1),.int d]]) (al rfl (al rfl (al (p2 (au (t:=.int u) (u:=.int 1) (au (t:=.tup [.int u,.int d]) (u:=.int 0) rfl rfl rfl) rfl rfl) (au (t:=.tup [.int u,.int d]) (u:=.int 1) rfl rfl rfl)) (al (p2 (au (t:=.int u) (u:=.int 1) (au (t:=.tup [.int u,.int d]) (u:=.int 0) rfl rfl rfl) rfl rfl) (au (t:=.tup [.int u,.int d]) (u:=.int 1) rfl rfl rfl)) rfl)))) (aw (k:=4) (by simp)))) lo⟩
&u5 {R:T}(hp:R.pl=true)(h:gw R=false):dD [R] = .err "NoRecord":=by
 &m9 rfl ?_
 show gj [.va R,.em,.em,.em,.em] =_
 #,gj
 #kS (k_exe (aM (ts:=[R]) rfl (vG hp h)))
&wC {R:T}(hp:R.pl=true)(h:gw R=false):bn [R] = .err "NoRecord":=by
 &m9 rfl ?_
 show cA [.va R,.em,.em,.em,.em] =_
 #,cA
 #kS (yi (aM (ts:=[R]) rfl (u5 hp h)))
&room0 {R:T}(hp:R.pl=true)(h:gw R=false):iM [R] = .err "NoRecord":=by
 &m9 rfl ?_
 show jU [.va R,.em] =_
 #,jU
 #kS (yi (aM (ts:=[R]) rfl (wC hp h)))
&shows0 {R a t:T}(hp:R.pl=true)(h:gw R=false):cb [R,a,t] = .err "NoRecord":=by
 &m9 rfl ?_
 show cP [.va R,.va a,.va t,.em] =_
 #,cP
 #kS (yi (aM (ts:=[R]) rfl (u5 hp h)))
&told0 {R r t:T}(h:iM [R] = .ok r):bX [.int 0,R,t] = .ok r:=
 a8 rfl (k_try (cz ((bY (aY (au (t:=.int 0) (u:=.int 2) rfl rfl rfl))).trans (bA (qi (i:=0) (g:=iM) rfl rfl (ts:=[R]) rfl h)))))
&told1 {R r t:T}(h:bn [R] = .ok r):bX [.int 1,R,t] = .ok r:=
 a8 rfl (k_try (cz ((bY (aY (au (t:=.int 1) (u:=.int 2) rfl rfl rfl))).trans (bA (qi (i:=1) (g:=bn) rfl rfl (ts:=[R]) rfl h)))))
&wB {R t:T}(hp:R.pl=true)(h:gw R=false)(k:Nat)(hk:k<3):bX [.int (k:Nat),R,t] = .ok (gC 0):=by
 match k,hk with
 | 0,_=>#a8 rfl (tw (c:="NoRecord") (kS ((bY (aY (au (t:=.int 0) (u:=.int 2) rfl rfl rfl))).trans (tz (qi (i:=0) (g:=iM) rfl rfl (ts:=[R]) rfl (room0 hp h))))) r0)
 | 1,_=>#a8 rfl (tw (c:="NoRecord") (kS ((bY (aY (au (t:=.int 1) (u:=.int 2) rfl rfl rfl))).trans (tz (qi (i:=1) (g:=bn) rfl rfl (ts:=[R]) rfl (wC hp h))))) r0)
 | 2,_=>
  &a8 rfl (tw (c:="NoRecord") ((az ((cF (aY (au (t:=.int 2) (u:=.int 2) rfl rfl rfl))).trans rfl)).trans (tz (aM (ts:=[R,.tup [.int 0,.int 1],t]) (al rfl (al (p2 rfl rfl) rfl)) (shows0 hp h)))) r0)
abbrev W7:En->Rs Fl:=(ax (bQ (cl ar (ac (vr 0) (ac (cn (.int 90)) (ac (o2 aH (cl bL (ac (vr 5) ah)) (cn (.int 1))) ah)))) (gN 10)) (ax (bQ (o2 aN (b7 (ac (o1 kO (cn (.int 1))) (ac (cl bL (ac (vr 3) ah)) (ac (cn (.bl true)) (ac (cn .non) (ac (cn (.str "0")) (ac (cn (.int 0)) (ac (cn (.int 1)) ah)))))))) (cl ar (ac (vr 0) (ac (cn (.int 91)) (ac (cn (.int 7)) ah))))) (gN 11)) (ax (bQ (b7 (ac (vr 5) (ac (o2 aH (sl (vr 5) pN (pS (vr 10))) (sl (vr 5) (pS (o2 aH (vr 10) (cn (.int 1)))) pN)) (ac (o2 aH (sl (vr 5) pN (pS (o2 aH (vr 10) (cn (.int 1))))) (sl (vr 5) (pS (vr 10)) pN)) (ac (o2 aH (o2 aH (sl (vr 5) pN (pS (vr 10))) (b7 (ac (vr 11) ah))) (sl (vr 5) (pS (o2 aH (vr 10) (cn (.int 1)))) pN)) ah))))) (gN 12)) (ax (bQ (o2 aH (vr 12) (b7 (ac (o2 aH (sl (vr 5) (pS (vr 10)) pN) (sl (vr 5) pN (pS (vr 10)))) (ac (o1 wZ (vr 5)) (ac (o2 ba (vr 5) (cn (.int 2))) (ac (b7 ah) ah)))))) (gN 12)) (ax (bQ (o2 aH (vr 12) (b7 (ac (cl jL (ac (vr 5) ah)) (ac (cn .non) (ac (b7 (ac (cn (.int 0)) ah)) (ac (b7 (ac (cn (.int 0)) (ac (cn (.int 1)) ah))) ah)))))) (gN 12)) (ax (bQ (aW (ac (o2 cQ (cl ar (ac (vr 0) (ac (cn (.int 92)) (ac (cn (.int 13)) ah)))) (cn (.int 6))) (ac (o2 aH (cn (.int 1)) (cl ar (ac (vr 0) (ac (cn (.int 93)) (ac (cn (.int 3)) ah))))) ah))) (gN 13)) (ax (dA (iS (vr 12)) (gN 14) W13) (aL (o2 il (dv (iR (ac (cn (.int 3)) ah)) [none,some 1,some 5] (gN 0) bT (cl bX (ac (vr 0) (ac (sl (vr 1) pN (pS (cn (.int 1)))) (ac (vr 2) ah))))) (o2 ba (b7 (ac (aW (ac (cn (.str "refused")) (ac (cn (.int 0)) ah))) ah)) (cn (.int 3))))))))))))
&Rd.w7 (R:Rd cs ls L P)(hn:ns.length<=63){l:List T}(hl:Flat l){u d:Int}(hd:0<d)(hd2:d<=1000)(s6 s7 s8 s9:Sl) :
  W7 (wE ns (.tup [.tup cs,.tup ls]) P L (.tup [.int u,.int d]) (.lst l) s6 s7 s8 s9 .em .em .em .em .em .em)= .ok (.rt (.bl true)):=by
 have h60:=hl.len
 &⟨r,ed,d0,d1⟩:=bV ns 90 ((l.length:Int)+1) hn (by omega)
 &⟨n,rfl⟩:=Int.eq_ofNat_of_zero_le d0
 &(az (ρ':=wE ns (.tup [.tup cs,.tup ls]) P L (.tup [.int u,.int d]) (.lst l) s6 s7 s8 s9 (.va (.int (n:Nat))) .em .em .em .em .em) (bJ (aM (ts:=[.scr ns,.int ((90:Nat):Int),.int ((l.length:Int)+1)]) rfl ed) rfl)).trans ?_
 &⟨r,ed,d0,d1⟩:=bV ns 91 7 hn (by omega)
 &⟨o,ho,eo⟩:=pick_at (l:=[.int (-1),.int (L.length:Nat),.bl true,.non,.str "0",.int 0,.int 1]) d0 d1
 have po:o.pl=true:=by
  simp only [List.mem_cons,List.not_mem_nil,or_false]at ho
  rcases ho with rfl | rfl | rfl | rfl | rfl | rfl | rfl <;> rfl
 &(az (ρ':=wE ns (.tup [.tup cs,.tup ls]) P L (.tup [.int u,.int d]) (.lst l) s6 s7 s8 s9 (.va (.int (n:Nat))) (.va o) .em .em .em .em) (bJ (au (t:=.lst [.int (-1),.int (L.length:Nat),.bl true,.non,.str "0",.int 0,.int 1]) (u:=.int r) (d9 (al rfl (al (tp L rfl) rfl)) (aw (k:=7) (by simp))) (aM (ts:=[.scr ns,.int ((91:Nat):Int),.int 7]) rfl ed) eo) rfl)).trans ?_
 have n1:∀ s10 s11 s12 s13 s14 s15,s10= .va (.int (n:Nat))->o2 aH (vr 10) (cn (.int 1)) (wE ns (.tup [.tup cs,.tup ls]) P L (.tup [.int u,.int d]) (.lst l) s6 s7 s8 s9 s10 s11 s12 s13 s14 s15)= .ok (.int ((n+1:Nat):Int)):=fun s10 s11 s12 s13 s14 s15 z=>by subst z;#au (t:=.int (n:Nat)) (u:=.int 1) rfl rfl rfl
 have lt:∀ k,(l.take k).length<=60:=fun k=>by rw [List.length_take];omega
 have ld:∀ k,(l.drop k).length<=60:=fun k=>by rw [List.length_drop];omega
 have q1:=fL (l.take n) (l.drop (n+1)) (by rw [List.length_append];have:=lt n;have:=ld (n+1);omega)
 have q2:=fL (l.take (n+1)) (l.drop n) (by rw [List.length_append];have:=lt (n+1);have:=ld n;omega)
 have q3:=fL (l.take n) [o] (by rw [List.length_append];have:=lt n;simp only [List.length_cons,List.length_nil];omega)
 have q4:=fL (l.take n++ [o]) (l.drop (n+1)) (by simp only [List.length_append,List.length_cons,List.length_nil];have:=lt n;have:=ld (n+1);omega)
 &(az (ρ':=wE ns (.tup [.tup cs,.tup ls]) P L (.tup [.int u,.int d]) (.lst l) s6 s7 s8 s9 (.va (.int (n:Nat))) (.va o) (.va (.lst (sG l n o))) .em .em .em) (bJ (d9 (ts:=[.lst l,.lst (l.take n++l.drop (n+1)),.lst (l.take (n+1)++l.drop n),.lst (l.take n++ [o] ++l.drop (n+1))]) (al rfl (al (au (lI rfl rfl) (lJ rfl (n1 _ _ _ _ _ _ rfl)) q1) (al (au (lI rfl (n1 _ _ _ _ _ _ rfl)) (lJ rfl rfl) q2) (al (au (au (lI rfl rfl) (d9 rfl (aw (k:=1) (by simp))) q3) (lJ rfl (n1 _ _ _ _ _ _ rfl)) q4) rfl)))) (aw (k:=4) (by simp))) rfl)).trans ?_
 have q5:ba (.lst l) (.int 2)= .ok (.lst (l++l)):=by
  rw [lL l 2 ⟨by omega,by omega,aw (k:=200) (by show l.length*2<=200;omega)⟩]
  simp [List.replicate,List.flatten]
 have q6:=fL (l.drop n) (l.take n) (by rw [List.length_append];have:=lt n;have:=ld n;omega)
 &(az (ρ':=wE ns (.tup [.tup cs,.tup ls]) P L (.tup [.int u,.int d]) (.lst l) s6 s7 s8 s9 (.va (.int (n:Nat))) (.va o) (.va (.lst (sG l n o++sK l n))) .em .em .em) (bJ (au (t:=.lst (sG l n o)) (u:=.lst (sK l n)) rfl (d9 (ts:=[.lst (l.drop n++l.take n),.lst l.reverse,.lst (l++l),.lst []]) (al (au (lJ rfl rfl) (lI rfl rfl) q6) (al (om (t:=.lst l) rfl rfl) (al (au (t:=.lst l) (u:=.int 2) rfl rfl q5) (al (d9 rfl (aw (k:=1) (by simp))) rfl)))) (aw (k:=4) (by simp))) (fL _ _ (by simp [sG,sK]))) rfl)).trans ?_
 &(az (ρ':=wE ns (.tup [.tup cs,.tup ls]) P L (.tup [.int u,.int d]) (.lst l) s6 s7 s8 s9 (.va (.int (n:Nat))) (.va o) (.va (.lst (sG l n o++sK l n++lu l))) .em .em .em) (bJ (au (t:=.lst (sG l n o++sK l n)) (u:=.lst (lu l)) rfl (d9 (ts:=[.tup l,.non,.lst [.int 0],.lst [.int 0,.int 1]]) (al (aM (ts:=[.lst l]) rfl rfl) (al rfl (al (d9 rfl (aw (k:=1) (by simp))) (al (d9 rfl (aw (k:=2) (by simp))) rfl)))) (aw (k:=4) (by simp))) (fL _ _ (by simp [sG,sK,lu]))) rfl)).trans ?_
 &⟨r2,e2,_,_⟩:=bV ns 92 13 hn (by omega)
 &⟨r3,e3,p3,p4⟩:=bV ns 93 3 hn (by omega)
 &(az (ρ':=wE ns (.tup [.tup cs,.tup ls]) P L (.tup [.int u,.int d]) (.lst l) s6 s7 s8 s9 (.va (.int (n:Nat))) (.va o) (.va (.lst (sG l n o++sK l n++lu l))) (.va (.tup [.int (r2 - 6),.int (1+r3)])) .em .em) (bJ (p2 (au (t:=.int r2) (u:=.int 6) (aM (ts:=[.scr ns,.int ((92:Nat):Int),.int 13]) rfl e2) rfl rfl) (au (t:=.int 1) (u:=.int r3) rfl (aM (ts:=[.scr ns,.int ((93:Nat):Int),.int 3]) rfl e3) rfl)) rfl)).trans ?_
 &⟨ρ',lo,s14,s15,rfl⟩:=oJ (g:=gN 14) (F:=W13) (fun ρ=> ∃s14 s15,ρ=wE ns (.tup [.tup cs,.tup ls]) P L (.tup [.int u,.int d]) (.lst l) s6 s7 s8 s9 (.va (.int (n:Nat))) (.va o) (.va (.lst (sG l n o++sK l n++lu l))) (.va (.tup [.int (r2 - 6),.int (1+r3)])) s14 s15) (ts:=sG l n o++sK l n++lu l)
  (fun t ht ρ hh=>by
   &⟨s14,s15,hρ⟩:=hh
   subst hρ
   &⟨s,e⟩:=R.w13 (ns:=ns) (th_ok hl n po t ht) (u:=u) (a:=r2 - 6) (b:=1+r3) hd hd2 (by omega) (by omega) (.lst l) s6 s7 s8 s9 (.va (.int (n:Nat))) (.va o) (.va (.lst (sG l n o++sK l n++lu l))) s15
   #⟨_,_,rfl,e,_,_,rfl⟩) (ρ:=wE ns (.tup [.tup cs,.tup ls]) P L (.tup [.int u,.int d]) (.lst l) s6 s7 s8 s9 (.va (.int (n:Nat))) (.va o) (.va (.lst (sG l n o++sK l n++lu l))) (.va (.tup [.int (r2 - 6),.int (1+r3)])) .em .em) ⟨_,_,rfl⟩
 &(az (dq (ts:=sG l n o++sK l n++lu l) (gQ rfl) lo)).trans ?_
 have hp1:(T.tup [.tup cs]).pl=true:=by rw [pM];simp [plS,R.g.parts.1]
 have lc:dv (iR (ac (cn (.int 3)) ah)) [none,some 1,some 5] (gN 0) bT (cl bX (ac (vr 0) (ac (sl (vr 1) pN (pS (cn (.int 1)))) (ac (vr 2) ah)))) (wE ns (.tup [.tup cs,.tup ls]) P L (.tup [.int u,.int d]) (.lst l) s6 s7 s8 s9 (.va (.int (n:Nat))) (.va o) (.va (.lst (sG l n o++sK l n++lu l))) (.va (.tup [.int (r2 - 6),.int (1+r3)])) s14 s15)= .ok (.lst ((rng 0 3).map fun _=>gC 0)):=
  ng (ts:=rng 0 3) (iR1 (j:=3) rfl (by omega) (by omega)) (aw (k:=4) (by rw [show(3:Int)=((3:Nat):Int)from rfl,fI];omega)) (by simp) fun t ht=>by
   &⟨k,rfl,hk⟩:=fH ht
   #aM (ts:=[.int (k:Nat),.tup [.tup cs],.lst l]) (al rfl (al (by rw [k_sl (l:=[.tup cs,.tup ls]) (lo:=none) (hi:=some ((1:Nat):Int)) rfl rfl rfl,sk];rfl) rfl)) (wB hp1 rfl k (by omega))
 #bA (au (t:=.lst [gC 0,gC 0,gC 0]) (u:=.lst [gC 0,gC 0,gC 0]) lc (au (t:=.lst [gC 0]) (u:=.int 3) (d9 (al (p2 rfl rfl) rfl) (aw (k:=1) (by simp))) rfl (lL [gC 0] 3 ⟨by omega,by omega,aw (k:=3) (by simp)⟩)) (eq_same rfl (by simp [T.dep,deps,gC])))
end
section
variable {cs ls:List T}{L:bf N2}{P:List N2}{ns:List Int}
&uB {u d:Int}(h:∀ q a,q≠ []->Ch L a q a->u*(q.length:Nat)<=aO L q*d):gy (less L u d):=rnd_noNeg.mpr fun c n hh_=>by
 &⟨q,a,h1,h2,h3,_⟩:=hh_
 have h2:=less_ch.mp h2
 have:=h q a h1 h2
 rw [<-h3,jl h2.lt]
 omega
&vM (R:Rd cs ls L P)(u d:Int):∀ x∈less L u d,x.1∈P/\x.2.1∈P:=fun x hx=>by
 unfold less at hx
 &⟨y,hy,rfl⟩:=List.mem_map.mp hx
 #R.f.ends y hy
&Rd.tab (R:Rd cs ls L P){u d:Int}(h:gy (less L u d)){f g:En->Rs T}{ρ:En}(hf:f ρ= .ok (eS P))(hg:g ρ= .ok (eL (less L u d))):tb (o2 gf (cl cg (ac f (ac g ah))) (cn .non)) ρ= .ok false:=by
 &⟨t,ht,et⟩:=e_table (L:=less L u d) R.nd (by have:=R.pl;omega) (vM R u d)
 rcases ht with⟨_,_,rfl⟩ | ⟨n,_⟩
 ·#aY (au (t:=nV P (table P (less L u d))) (u:=.non) (aM (ts:=[eS P,eL (less L u d)]) (al hf (al hg rfl)) et) rfl rfl)
 ·#absurd h n
def lsT (u d:Int)(t:T):T:=match t with
 | .tup [a,b,.int m] => .tup [a,b,.int (m*d - u)]
 | _=> .non
&xT (L:bf N2)(u d:Int):(L.map eB).map (lsT u d)=(less L u d).map eB:=by
 #,less
 rw [List.map_map,List.map_map]
 rfl
&lc_less {u d:Int}(hd : -18446744073709551616<d)(hd2:d<18446744073709551616)(hl:L.length<=1000){ρ:En}{f:En->Rs T}(hf:f ρ= .ok (eL L))(hE:bz [none,none,none,some 7,some 6] ρ= [.em,.em,.em,.va (.int d),.va (.int u)]) :
  (dv (iS f) [none,none,none,some 7,some 6] (gT 3 (dO (gN 0) (dO (gN 1) (dO (gN 2) lm)))) bT (aW (ac (vr 0) (ac (vr 1) (ac (o2 cQ (o2 ba (vr 2) (vr 3)) (vr 4)) ah))))) ρ= .ok (eL (less L u d)):=by
 #,dv
 rw [gQ (l:=L.map eB) hf,aD,if_pos (aw (by rw [List.length_map];#hl) (by omega)),hE,qh (h:=lsT u d) (fun ρ=> ∃a b c,ρ= [a,b,c,.va (.int d),.va (.int u)]) (L.map eB) _ ⟨_,_,_,rfl⟩ fun t ht ρ hh_=>by
  &⟨a,b,c,e⟩:=hh_
  subst e
  &⟨x,hx,rfl⟩:=List.mem_map.mp ht
  #⟨[.va (en x.1),.va (en x.2.1),.va (.int x.2.2),.va (.int d),.va (.int u)],rfl,⟨_,_,_,rfl⟩,cm (ts:=[en x.1,en x.2.1,.int (x.2.2*d - u)]) (al rfl (al rfl (al (au (t:=.int (x.2.2*d)) (u:=.int u) (au (t:=.int x.2.2) (u:=.int d) rfl rfl (iK hd hd2)) rfl rfl) rfl))) (aw (k:=3) (by simp))⟩,xT]
 rfl
&lc_one (hl:L.length<=1000){ρ:En}{f:En->Rs T}(hf:f ρ= .ok (eL L)) :
  (dv (iS f) [none,none,none] (gT 3 (dO (gN 0) (dO (gN 1) (dO (gN 2) lm)))) bT (aW (ac (vr 0) (ac (vr 1) (ac (o1 kO (cn (.int 1))) ah))))) ρ= .ok (eL (less L 1 0)):=by
 #,dv
 rw [gQ (l:=L.map eB) hf,aD,if_pos (aw (by rw [List.length_map];#hl) (by omega)),show bz [none,none,none] ρ= [.em,.em,.em]from rfl,qh (h:=lsT 1 0) (fun ρ=> ∃a b c,ρ= [a,b,c]) (L.map eB) _ ⟨_,_,_,rfl⟩ fun t ht ρ hh_=>by
  &⟨a,b,c,e⟩:=hh_
  subst e
  &⟨x,hx,rfl⟩:=List.mem_map.mp ht
  #⟨[.va (en x.1),.va (en x.2.1),.va (.int x.2.2)],rfl,⟨_,_,_,rfl⟩,(cm (ts:=[en x.1,en x.2.1,.int (-1)]) rfl (aw (k:=3) (by simp))).trans (by show _=Rs.ok (T.tup [en x.1,en x.2.1,.int (x.2.2*0 - 1)]);rw [Int.mul_zero];rfl)⟩,xT]
 rfl
abbrev W6:En->Rs Fl:=(eI (tb (o2 gf (vr 4) (cn .non))) (ax (eI (tb (o2 gf (cl cg (ac (vr 2) (ac (dv (iS (vr 3)) [none,none,none] (gT 3 (dO (gN 0) (dO (gN 1) (dO (gN 2) lm)))) bT (aW (ac (vr 0) (ac (vr 1) (ac (o1 kO (cn (.int 1))) ah))))) ah))) (cn .non))) (aL (cn (.bl false))) sN) (ax (bQ (aW (ac (o2 cQ (cl ar (ac (vr 0) (ac (cn (.int 80)) (ac (cn (.int 9)) ah)))) (cn (.int 4))) (ac (cn (.int 1)) ah))) (gN 4)) (bQ (dv (iR (ac (cn (.int 3)) ah)) [none,some 0,some 3] (gN 0) bT (cl ar (ac (vr 1) (ac (o2 aH (cn (.int 81)) (vr 0)) (ac (o2 aH (cl bL (ac (vr 2) ah)) (cn (.int 1))) ah))))) (gN 5)))) (ax (bQ (vr 4) (gT 2 (dO (gN 6) (dO (gN 7) lm)))) (ax (bQ (dv (iR (ac (cn (.int 2)) (ac (o2 aH (vr 7) (cn (.int 1))) ah))) [none,some 6,some 7] (gN 0) (jT (tb (o2 il (o2 fh (vr 1) (vr 0)) (cn (.int 0)))) (tb (o2 il (o2 fh (vr 2) (vr 0)) (cn (.int 0))))) (vr 0)) (gN 8)) (ax (eI (kF (tb (o2 mS (vr 7) (cn (.int 1)))) (tb (o2 lz (vr 8) (b7 ah)))) (aL (cn (.bl false))) sN) (ax (bQ (cl sO (ac (dv (iS (vr 5)) [none,some 3] (gN 0) bT (o2 aN (o2 aN (vr 1) (vr 0)) (cn (.int 2)))) ah)) (gN 9)) (ax (eI (kF (du (tb (cl ci (ac (vr 3) (ac (vr 5) ah))))) (tb (o2 lz (o2 ba (vr 9) (vr 7)) (o2 ba (vr 6) (cl bL (ac (vr 5) ah)))))) (aL (cn (.bl false))) sN) (eI (tb (o2 gf (cl cg (ac (vr 2) (ac (dv (iS (vr 3)) [none,none,none,some 7,some 6] (gT 3 (dO (gN 0) (dO (gN 1) (dO (gN 2) lm)))) bT (aW (ac (vr 0) (ac (vr 1) (ac (o2 cQ (o2 ba (vr 2) (vr 3)) (vr 4)) ah))))) ah))) (cn .non))) (aL (cn (.bl false))) sN)))))))
&Rd.w6 (R:Rd cs ls L P)(hn:ns.length<=63){o:Option (List Nat)}(tt:u9 L o):∃ u d l s6 s7 s8 s9,0<d/\d<=1000/\Flat l ∧
  W6 (wE ns (.tup [.tup cs,.tup ls]) P L (rmT L o) (oT o) .em .em .em .em .em .em .em .em .em .em)= .ok (.nx (wE ns (.tup [.tup cs,.tup ls]) P L (.tup [.int u,.int d]) (.lst l) s6 s7 s8 s9 .em .em .em .em .em .em)):=by
 have hl:=R.ll
 cases o with
 | none=>
  have nn:gy (less L 1 0):=uB fun q a h1 h2=>absurd ⟨q,a,h1,h2,rfl,rfl⟩ (tt (aO L q) q.length)
  &⟨r,ed,_,_⟩:=bV ns 80 9 hn (by omega)
  have lc:(dv (iR (ac (cn (.int 3)) ah)) [none,some 0,some 3] (gN 0) bT (cl ar (ac (vr 1) (ac (o2 aH (cn (.int 81)) (vr 0)) (ac (o2 aH (cl bL (ac (vr 2) ah)) (cn (.int 1))) ah))))) (wE ns (.tup [.tup cs,.tup ls]) P L (.tup [.int (r - 4),.int 1]) .non .em .em .em .em .em .em .em .em .em .em)= .ok (.lst ((rng 0 3).map fun t=>match t with | .int i=>okv (ar [.scr ns,.int ((81+i.toNat:Nat):Int),.int ((L.length:Int)+1)]) | _=> .non)):=
   ng (ts:=rng 0 3) (iR1 (j:=3) rfl (by omega) (by omega)) (aw (k:=4) (by rw [show(3:Int)=((3:Nat):Int)from rfl,fI];omega)) (by simp) fun t ht=>by
    &⟨k,rfl,hk⟩:=fH ht
    &⟨r,e,_⟩:=bV ns (81+k) ((L.length:Int)+1) hn (by omega)
    &(aM (ts:=[.scr ns,.int ((81+k:Nat):Int),.int ((L.length:Int)+1)]) (al rfl (al (au (t:=.int 81) (u:=.int (k:Nat)) rfl rfl rfl) (al (au (t:=.int (L.length:Nat)) (u:=.int 1) (tp L rfl) rfl rfl) rfl))) e).trans ?_
    show Rs.ok (T.int r)= .ok (okv (ar [.scr ns,.int ((81+(k:Int).toNat:Nat):Int),.int ((L.length:Int)+1)]))
    rw [Int.toNat_natCast,e];rfl
  have fl:Flat ((rng 0 3).map fun t=>match t with | .int i=>okv (ar [.scr ns,.int ((81+i.toNat:Nat):Int),.int ((L.length:Int)+1)]) | _=> .non):=⟨by rw [List.length_map,show(3:Int)=((3:Nat):Int)from rfl,fI];omega,fun u hu=>by
   &⟨t,ht,rfl⟩:=List.mem_map.mp hu
   &⟨k,rfl,hk⟩:=fH ht
   &⟨r,e,_⟩:=bV ns (81+k) ((L.length:Int)+1) hn (by omega)
   show(okv (ar [.scr ns,.int ((81+(k:Int).toNat:Nat):Int),.int ((L.length:Int)+1)])).pl=true
   rw [Int.toNat_natCast,e];rfl⟩
  generalize ((rng 0 3).map fun t=>match t with | .int i=>okv (ar [.scr ns,.int ((81+i.toNat:Nat):Int),.int ((L.length:Int)+1)]) | _=> .non)=l at lc fl
  &⟨r - 4,1,l,.em,.em,.em,.em,by omega,by omega,fl,(bY (aY (au (t:=.non) (u:=.non) rfl rfl rfl))).trans ?_⟩
  &(az (ρ':=wE ns (.tup [.tup cs,.tup ls]) P L .non .non .em .em .em .em .em .em .em .em .em .em) ((cF (R.tab nn rfl (lc_one (by omega) rfl))).trans rfl)).trans ?_
  &(az (ρ':=wE ns (.tup [.tup cs,.tup ls]) P L (.tup [.int (r - 4),.int 1]) .non .em .em .em .em .em .em .em .em .em .em) (bJ (p2 (au (t:=.int r) (u:=.int 4) (aM (ts:=[.scr ns,.int ((80:Nat):Int),.int 9]) rfl ed) rfl rfl) rfl) rfl)).trans ?_
  #bJ lc rfl
 | some q=>
  have s:=tt.1
  &⟨l1,_⟩:=kc s
  have hp:=s.pos
  have lt:=wR s
  &⟨a,ha⟩:=s.ch
  &⟨g,g0,h1,h2,h3⟩:=frac (L:=L) (q:=q) hp
  have low:∀ k:Int,2<=k->¬ ((aO L q / gm (aO L q) q.length) % k=0/\((q.length:Int) / gm (aO L q) q.length) % k=0):=fun k hk=>lowest hp hk
  have dn:(q.length:Int) / gm (aO L q) q.length<=q.length:=Int.ediv_le_self _ (by omega)
  have er:rmT L (some q)= .tup [.int (aO L q / gm (aO L q) q.length),.int ((q.length:Int) / gm (aO L q) q.length)]:=rfl
  rw [er]
  generalize aO L q / gm (aO L q) q.length=u at*
  generalize (q.length:Int) / gm (aO L q) q.length=d at*
  have fr:Fr (aO L q) q.length u d:=⟨⟨g,g0,h1,h2⟩,h3,dn⟩
  have nn:gy (less L u d):=uB fun p b p1 p2=>by
   have b1:=tt.2 (aO L p) p.length ⟨p,b,p1,p2,rfl,rfl⟩
   rw [h1,h2]at b1
   have b2:(u*(p.length:Int))*g<=(aO L p*d)*g:=by
    have z1:u*g*(p.length:Int)=u*(p.length:Int)*g:=by rw [Int.mul_assoc,Int.mul_comm g,Int.mul_assoc]
    have z2:aO L p*(d*g)=aO L p*d*g:=by rw [Int.mul_assoc]
    omega
   #Int.le_of_mul_le_mul_right b2 g0
  &⟨u,d,eN q,.va (.int u),.va (.int d),.va (.lst []),.va (.int (aO L q)),h3,by omega,⟨by #,eN;rw [List.length_map];omega,pl_eN q⟩,(cF (aY (au (t:=(.tup [.int u,.int d])) (u:=.non) rfl rfl rfl))).trans ?_⟩
  &(az (ρ':=wE ns (.tup [.tup cs,.tup ls]) P L (.tup [.int u,.int d]) (.lst (eN q)) (.va (.int u)) (.va (.int d)) .em .em .em .em .em .em .em .em) (bJ (t:=(.tup [.int u,.int d])) rfl rfl)).trans ?_
  have lcd:(dv (iR (ac (cn (.int 2)) (ac (o2 aH (vr 7) (cn (.int 1))) ah))) [none,some 6,some 7] (gN 0) (jT (tb (o2 il (o2 fh (vr 1) (vr 0)) (cn (.int 0)))) (tb (o2 il (o2 fh (vr 2) (vr 0)) (cn (.int 0))))) (vr 0)) (wE ns (.tup [.tup cs,.tup ls]) P L (.tup [.int u,.int d]) (.lst (eN q)) (.va (.int u)) (.va (.int d)) .em .em .em .em .em .em .em .em)= .ok (.lst (((rng 2 (d+1)).filter fun _=>false).map id)):=by
   &uL (ts:=rng 2 (d+1)) (iR2 (i:=2) (j:=d+1) (al rfl (al (au (t:=.int d) (u:=.int 1) rfl rfl rfl) rfl)) (by omega) (by omega) (by omega) (by omega)) (aw (k:=100) (by #,rng;rw [List.length_map,List.length_range];omega)) (by simp) fun t ht=> ?_
   unfold rng at ht
   &⟨k,_,rfl⟩:=List.mem_map.mp ht
   &⟨?_,fun z=>by cases z⟩
   have p1:(0:Int)<2+(k:Int):=by omega
   have:=low (2+(k:Int)) (by omega)
   &(k_and (p:=u % (2+(k:Int)) == 0) (q:=d % (2+(k:Int)) == 0) (aY (au (t:=.int (u % (2+(k:Int)))) (u:=.int 0) (au (t:=.int u) (u:=.int (2+(k:Int))) rfl rfl (f9 p1)) rfl (nv _ _))) fun _=>aY (au (t:=.int (d % (2+(k:Int)))) (u:=.int 0) (au (t:=.int d) (u:=.int (2+(k:Int))) rfl rfl (f9 p1)) rfl (nv _ _))).trans ?_
   congr 1
   rw [Bool.and_eq_false_iff]
   by_cases z:u % (2+(k:Int))=0
   ·#.inr (by rw [beq_eq_false_iff_ne];#fun y=>this ⟨z,y⟩)
   ·#.inl (by rw [beq_eq_false_iff_ne];#z)
  have fe:((rng 2 (d+1)).filter fun _=>false)= []:=List.filter_eq_nil_iff.mpr fun _ _ z=>by cases z
  rw [fe]at lcd
  &(az (ρ':=wE ns (.tup [.tup cs,.tup ls]) P L (.tup [.int u,.int d]) (.lst (eN q)) (.va (.int u)) (.va (.int d)) (.va (.lst [])) .em .em .em .em .em .em .em) (bJ lcd rfl)).trans ?_
  &(az (ρ':=wE ns (.tup [.tup cs,.tup ls]) P L (.tup [.int u,.int d]) (.lst (eN q)) (.va (.int u)) (.va (.int d)) (.va (.lst [])) .em .em .em .em .em .em .em) ((cF (gv (aY (au (t:=.int d) (u:=.int 1) rfl rfl (by show Rs.ok (T.bl (decide (d<1)))=_;rw [decide_eq_false (by omega)]))) (aY (au (t:=.lst []) (u:=.lst []) rfl (d9 rfl (aw (k:=1) (by simp))) (ut rfl (by simp [T.dep,deps])))))).trans rfl)).trans ?_
  &(az (ρ':=wE ns (.tup [.tup cs,.tup ls]) P L (.tup [.int u,.int d]) (.lst (eN q)) (.va (.int u)) (.va (.int d)) (.va (.lst [])) (.va (.int (aO L q))) .em .em .em .em .em .em) (bJ (wM lt (by omega) rfl rfl) rfl)).trans ?_
  have rq:jM L (.lst (eN q))=true:=by
   #,jM
   rw [jn,mL lt,Bool.true_and]
   cases q with
   | nil=>#absurd rfl s.ne
   | cons k r=>
    have hr:=run_ch.mpr ha
    have e:=rf hr
    show decide (run L (eG L k) (k::r)=some (eG L k))=true
    rw [e,decide_eq_true hr]
  have okq:Ok (.lst (eN q)):=gD (pl_eN q) (by #,eN;rw [List.length_map];omega)
  &(az (ρ':=wE ns (.tup [.tup cs,.tup ls]) P L (.tup [.int u,.int d]) (.lst (eN q)) (.va (.int u)) (.va (.int d)) (.va (.lst [])) (.va (.int (aO L q))) .em .em .em .em .em .em) ((cF (gv (cR (k:=true) (aY (aM (ts:=[eL L,.lst (eN q)]) rfl (by rw [r9 _ okq.1 okq.2,rq])))) (aY (au (t:=.int (aO L q*d)) (u:=.int (u*(q.length:Nat))) (au (t:=.int (aO L q)) (u:=.int d) rfl rfl (iK (by omega) (by omega))) (au (t:=.int u) (u:=.int (q.length:Nat)) rfl (kR q rfl) (iK (by omega) (by omega))) ((ne_int _ _).trans (by rw [fr.same];simp)))))).trans rfl)).trans ?_
  #(cF (R.tab nn rfl (lc_less (by omega) (by omega) (by omega) rfl rfl))).trans rfl
&pure_law (ns:List Int)(hn:ns.length<=63):m_law [.scr ns] = .ok (.bl true):=by
 &⟨cs,ls,er,hc,c3,hs,hl,l6⟩:=e_drec ns hn 0 5 (by omega)
 &⟨hR,mR⟩:=rec_ok hc hs hl (by omega)
 have g:Good cs ls:=⟨hc,fun t ht=>(hl t ht).1,by omega,sm_plT mR⟩
 &⟨L,P,R⟩:=uf g
 &a8 rfl ?_
 show ze [.va (.scr ns),.em,.em,.em,.em,.em,.em,.em,.em,.em,.em,.em,.em,.em,.em,.em] =_
 #,ze
 rw [az (ρ':=[.va (.scr ns),.va (.tup [.tup cs,.tup ls]),.em,.em,.em,.em,.em,.em,.em,.em,.em,.em,.em,.em,.em,.em]) (bJ (aM (ts:=[.scr ns,.int ((0:Nat):Int),.int ((5:Nat):Int)]) rfl er) rfl)]
 rw [az (ρ':=[.va (.scr ns),.va (.tup [.tup cs,.tup ls]),.va (eS P),.em,.em,.em,.em,.em,.em,.em,.em,.em,.em,.em,.em,.em]) (bJ (aM (ts:=[.tup cs]) rfl (by rw [sd cs hc,R.e];rfl)) rfl)]
 rw [az (ρ':=[.va (.scr ns),.va (.tup [.tup cs,.tup ls]),.va (eS P),.va (eL L),.em,.em,.em,.em,.em,.em,.em,.em,.em,.em,.em,.em]) (bJ (aM (ts:=[(.tup [.tup cs,.tup ls])]) rfl (by rw [vY hc g.l g.n,R.b];rfl)) rfl)]
 &⟨o,e1,tt,e0⟩:=R.room
 rw [az (ρ':=[.va (.scr ns),.va (.tup [.tup cs,.tup ls]),.va (eS P),.va (eL L),.va (rmT L o),.em,.em,.em,.em,.em,.em,.em,.em,.em,.em,.em]) (bJ (aM (ts:=[.int 0,(.tup [.tup cs,.tup ls]),.non]) rfl (told0 e0)) rfl)]
 rw [az (ρ':=wE ns (.tup [.tup cs,.tup ls]) P L (rmT L o) (oT o) .em .em .em .em .em .em .em .em .em .em) (bJ (aM (ts:=[.int 1,(.tup [.tup cs,.tup ls]),.non]) rfl (told1 e1)) rfl)]
 &(az (ρ':=wE ns (.tup [.tup cs,.tup ls]) P L (rmT L o) (oT o) .em .em .em .em .em .em .em .em .em .em) ((cF (aY (au (t:=.bl o.isNone) (u:=.bl o.isNone) (au (t:=rmT L o) (u:=.non) rfl rfl (by cases o <;> rfl)) (au (t:=oT o) (u:=.non) rfl rfl (by cases o <;> rfl)) (ne_bl _)))).trans rfl)).trans ?_
 &⟨u,d,l,s6,s7,s8,s9,hd,hd2,fl,e6⟩:=R.w6 hn tt
 &(az e6).trans ?_
 #R.w7 hn fl hd hd2 s6 s7 s8 s9
end
end G
end
lay_quick G.lhs G.rhs
name_quick lhsz for G.lhs by G.lhs_r
name_quick rhsz for G.rhs by G.rhs_r
open PySem PySem.W PyProof.Rows
set_option maxRecDepth 100000 in
set_option maxHeartbeats 0 in
&G.left1 (w : World) (os : OsState) : PySem.W.Fast.lhsz w (boot_heap w.params) boot_drawn boot_toks os = PySem.W.Fast.rhsz w := by kernel_rfl
set_option maxRecDepth 100000 in
set_option maxHeartbeats 0 in
&PySem.Challenge.cw_farclocks_k60_room_holds : PySem.Challenge.rw_farclocks_k60_room.Holds := by
  w_on; o_law
  &holds_open (q := G.vw) (loose := G.lse) (Xt := fun _ => true) (XP := fun _ _ => True) (Yf := (Tr.hookK G.asks G.top).obs) (Ya := (Tr.hookK G.asks G.top).val) (YP := (Tr.hookK G.asks G.top).says) (N := 9000) (Tr.left_of (by rfl) (by rfl) (fun _ => rfl) fun w os => ?hl) (Tr.hookK G.asks G.top).of (Tr.hookK G.asks G.top).keeps (fun _ _ => trivial) (fun _ _ _ _ _ => trivial) (by rfl) (by rfl) (by rfl) (fun s _ => recFacts_of (s := s) rfl) (by rfl) (by assumption) (by decide +kernel) ⟨rfl, rfl, rfl, rfl, rfl, by decide +kernel⟩ ?hw ?hc
  case hl => #((congrFun (congrFun (congrFun (congrFun (congrFun PySem.W.Fast.lhsz_eq w) _) _) _) os).trans (G.left1 w os)).trans (congrFun PySem.W.Fast.rhsz_eq w).symm
  case hw => w_witness2
  case hc => #Tr.walk_k (n := 63) (k := 12) (x := "_law_script") (CX := L2.CX0) (sp := fun K => Tr.spP K 1 G.m_law) rfl (by decide) rfl ⟨rfl, by decide, by decide⟩ (fun w K mg fa h X e g hf => G.all_ok X e g hf) (fun K H a ns hl _ hS => Tr.sp_script hS (G.pure_law ns hl)) fun _ _ _ _ z => z
