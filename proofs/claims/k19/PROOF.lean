import PyProof.Rows.All
import Wide.All
import OpenK.AllK
import Wide.FinOn
import Lean
import PyProof.EqAt
import PyProof.EqKinds
import PyProof.TupleCall
import PySem.Challenge.RW_partedweb_k19_single_cuts_beside_the_lea
set_option Elab.async false
set_option linter.all false
set_option maxRecDepth 100000
namespace L2
open PySem PySem.Spec PyProof.Rows
noncomputable abbrev Key:=Sum Int Str
noncomputable def keyIs:Key->Value->Bool
 | .inl k,v=>Value.isInt k v
 | .inr x,v=>Value.isStrOf x v
noncomputable def keyH(w:World):Key->Int
 | .inl k=>hashInt k
 | .inr x=>hashStr w x
theorem keyIs_shape:∀ {k:Key}{v:Value},keyIs k v=true->(∃ i t,k=Sum.inl i/\v=Value.int i t)\/(∃ x t,k=Sum.inr x/\v=Value.str x t)
 | .inl i,v,h=>by
  obtain⟨t,e⟩:=Value.isInt_shape (k:=i) (v:=v) h
  exact .inl ⟨i,t,rfl,e⟩
 | .inr x,v,h=>by
  obtain⟨t,e⟩:=Value.isStrOf_shape (x:=x) (v:=v) h
  exact .inr ⟨x,t,rfl,e⟩
theorem keyIs_int(i:Int)(t:Tok):keyIs (.inl i) (.int i t)=true:=by simp[keyIs,Value.isInt]
theorem keyIs_str(x:Str)(t:Tok):keyIs (.inr x) (.str x t)=true:=by simp[keyIs,Value.isStrOf]
theorem key_ll(a b:Int):decide ((Sum.inl a:Key)=Sum.inl b)=(a == b):=by
 by_cases e:a=b
 ·subst e;simp
 ·have h:¬(Sum.inl a:Key)=Sum.inl b:=fun q=>e (Sum.inl.inj q)
  rw[decide_eq_false h]
  exact(beq_eq_false_iff_ne.mpr e).symm
theorem key_rr(a b:Str):decide ((Sum.inr a:Key)=Sum.inr b)=decide (a=b):=by
 by_cases e:a=b
 ·subst e;simp
 ·have h:¬(Sum.inr a:Key)=Sum.inr b:=fun q=>e (Sum.inr.inj q)
  rw[decide_eq_false h,decide_eq_false e]
theorem key_lr(a:Int)(b:Str):decide ((Sum.inl a:Key)=Sum.inr b)=false:=decide_eq_false (fun q=>nomatch q)
theorem key_rl(a:Str)(b:Int):decide ((Sum.inr a:Key)=Sum.inl b)=false:=decide_eq_false (fun q=>nomatch q)
noncomputable def mixKind(prog:Program)(w:World):PySem.KeyKind prog w Key where
 is:=keyIs
 hash:=keyH w
 inj:=fun v a b ha hb=>by
  rcases keyIs_shape ha with⟨i,t,rfl,rfl⟩ |⟨x,t,rfl,rfl⟩
  ·rcases keyIs_shape hb with⟨j,u,rfl,e⟩ |⟨y,u,rfl,e⟩
   ·injection e with e1 _;rw[e1]
   ·exact nomatch e
  ·rcases keyIs_shape hb with⟨j,u,rfl,e⟩ |⟨y,u,rfl,e⟩
   ·exact nomatch e
   ·injection e with e1 _;rw[e1]
 byValue:=fun k v h=>by
  rcases keyIs_shape h with⟨i,t,rfl,rfl⟩ |⟨x,t,rfl,rfl⟩ <;> rfl
 pyHash:=fun hv h=>by
  rcases keyIs_shape hv with⟨i,t,rfl,rfl⟩ |⟨x,t,rfl,rfl⟩
  ·exact wpAny_pyHash_int h
  ·exact wpAny_pyHash_str h
 eqBool:=fun hu hv h=>by
  rcases keyIs_shape hu with⟨i,t,rfl,rfl⟩ |⟨x,t,rfl,rfl⟩
  ·rcases keyIs_shape hv with⟨j,u,rfl,rfl⟩ |⟨y,u,rfl,rfl⟩
   ·rw[key_ll]at h;exact wpAny_eqBool_int h
   ·rw[key_lr]at h;exact SeqAt.EqAt.int_str i t y u _ _ _ _ h
  ·rcases keyIs_shape hv with⟨j,u,rfl,rfl⟩ |⟨y,u,rfl,rfl⟩
   ·rw[key_rl]at h;exact SeqAt.EqAt.str_int x t j u _ _ _ _ h
   ·rw[key_rr]at h;exact wpAny_eqBool_str h
 «strs»:=fun k x t v h=>by
  rcases keyIs_shape h with⟨i,u,rfl,e⟩ |⟨y,u,rfl,e⟩
  ·exact nomatch e
  ·injection e with e1 _
   subst e1
   cases v <;> rfl
theorem mixKind_int(prog:Program)(w:World)(i:Int)(t:Tok):(mixKind prog w).is (.inl i) (.int i t)=true:=keyIs_int i t
theorem mixKind_str(prog:Program)(w:World)(x:Str)(t:Tok):(mixKind prog w).is (.inr x) (.str x t)=true:=keyIs_str x t
open PySem PySem.Spec PyProof.Rows
inductive V where
 |non | bl (b:Bool) | int (i:Int) | str (x:Str) | byt (b:Array UInt8) | flt (b:UInt64) | ref (a:Addr) | ty (n:String)
 deriving DecidableEq
noncomputable def RelV:V->Value->Prop
 | .non,u=>u=Value.none
 | .bl b,u=>u=Value.bool b
 | .int i,u=>∃ t,u=Value.int i t
 | .str x,u=>∃ t,u=Value.str x t
 | .byt b,u=>∃ t,u=Value.bytes b t
 | .flt b,u=>∃ t,u=Value.float b t
 | .ref a,u=>u=Value.ref a
 | .ty n,u=>u=Value.type n
noncomputable abbrev Vals:List V->List Value->Prop:=Paired RelV
theorem Vals.length{xs:List V}{us:List Value}(r:Vals xs us):xs.length=us.length:=Paired.length r
theorem Vals.get:∀ {xs:List V}{us:List Value}{i:Nat}{x:V},Vals xs us->xs[i]?=some x->∃ u,us[i]?=some u/\RelV x u
 | _,_,_,_,.nil,e=>by simp at e
 | _,_,0,_,.cons r _,e=>by simp at e;subst e;exact⟨_,rfl,r⟩
 | _,_,i+1,x,.cons _ t,e=>by
  obtain⟨u,h1,h2⟩:=Vals.get (i:=i) (x:=x) t (by simpa using e)
  exact⟨u,by simpa using h1,h2⟩
theorem Vals.set{x:V}{u:Value}(r:RelV x u):∀ {xs:List V}{us:List Value} (i:Nat),Vals xs us->Vals (xs.set i x) (us.set i u)
 | _,_,_,.nil=>.nil
 | _,_,0,.cons _ t=>.cons r t
 | _,_,i+1,.cons q t=>.cons q (Vals.set r i t)
theorem Vals.append:∀ {xs ys:List V}{us ws:List Value},Vals xs us->Vals ys ws->Vals (xs++ys) (us++ws)
 | _,_,_,_,.nil,s=>s
 | _,_,_,_,.cons r t,s=>.cons r (Vals.append t s)
theorem Vals.take:∀ {xs:List V}{us:List Value} (n:Nat),Vals xs us->Vals (xs.take n) (us.take n)
 | _,_,0,_=>.nil
 | _,_,_+1,.nil=>.nil
 | _,_,n+1,.cons r t=>.cons r (Vals.take n t)
theorem Vals.drop:∀ {xs:List V}{us:List Value} (n:Nat),Vals xs us->Vals (xs.drop n) (us.drop n)
 | _,_,0,r=>r
 | _,_,_+1,.nil=>.nil
 | _,_,n+1,.cons _ t=>Vals.drop n t
noncomputable def RelO:Option V->Option Value->Prop
 |some v,some u=>RelV v u
 |none,none=>True
 | _,_=>False
noncomputable def KV{κ:Type}:List (κ×V)->List (κ×Value)->Prop:=Paired fun(p:κ×V) (q:κ×Value)=>p.1=q.1/\RelV p.2 q.2
noncomputable def kV:Key->V
 | .inl i=>.int i
 | .inr x=>.str x
inductive HO where
 /-- a list -/
 |lst (xs:List V)
 /-- a tuple (never changes) -/
 |tup (xs:List V)
 /-- a dict whose keys are ints and texts;one whose keys are tuples of ints and texts (the empty one is both) -/
 |dK (kvs:List (Key×V)) | dT (kvs:List (List Key×V))
 /-- a set of ints: its members,its size -/
 |set (S:Int->Bool) (n:Nat)
 /-- an instance of the class at C,its dict at dx,its attributes -/
 |ins (C dx:Addr) (fs:List (Str×V))
 /-- the dict of the instance at x -/
 |own (x:Addr)
 /-- the dict of an exception -/
 |xd (fs:List (Str×V))
 /-- a bound method,f of x -/
 |met (f x:Addr)
 /-- a range object lo,lo+1,.. below hi -/
 |rng (lo hi:Int)
 /-- a thing that is known to the object (the script;a dict while a loop walks it): read,never written while it is so -/
 |frz (o:Obj) (u:HO)
 /-- a code object's table -/
 |tbl (ps:Array Value)
 /-- any other thing,by what is true of its one object (a def of one's own: SetO a S n:=HO.ext fun h=>..) -/
 |ext (φ:Heap->Prop)
noncomputable abbrev Hp:=Addr->Option HO
noncomputable def upd(H:Hp)(a:Addr)(o:HO):Hp:=fun b=>if b=a then some o else H b
theorem upd_same{H:Hp}{a:Addr}{o:HO}:upd H a o a=some o:=by unfold upd;rw[if_pos rfl]
theorem upd_ne{H:Hp}{a b:Addr}{o:HO}(h:b≠a):upd H a o b=H b:=by unfold upd;rw[if_neg h]
theorem ne_of{H:Hp}{a b:Addr}{o u:HO}(h:H a=some o)(h':H b=some u)(d:o≠u):a≠b:=by
 intro e;subst e;rw[h]at h';exact d (Option.some.inj h')
theorem ne_of_none{H:Hp}{a b:Addr}{o:HO}(h:H a=some o)(h':H b=none):a≠b:=by
 intro e;subst e;rw[h]at h';cases h'
section
variable(P:Program)(w:World)
noncomputable def ObjOk(H:Hp)(h:Heap)(a:Addr):HO->Prop
 | .lst xs=>xs.length<=sizeLine/\∃ (its:List Value) (n:Nat),Vals xs its/\h.get? a=some { cls:=.type "list",data:=.seq its.toArray n }
 | .tup xs=>xs.length<=sizeLine/\∃ its:List Value,Vals xs its/\IsTup h a its.toArray
 | .dK kvs=>kvs.length<=sizeLine/\(a == sysModules)=false/\∃ vs,KV kvs vs/\h.DictOf (mixKind P w) a vs
 | .dT kvs=>kvs.length<=sizeLine/\(a == sysModules)=false/\∃ xs:List (List Key×Addr×Value),
   Paired (fun(p:List Key×V) (q:List Key×Addr×Value)=>p.1=q.1/\H q.2.1=some (.tup (p.1.map kV))/\RelV p.2 q.2.2) kvs xs /\
   ∃ o es ep,h.get? a=some o/\o.ExactDict/\o.data = .dict es ep/\es.toList=xs.map (entryOfKey (tupleKind (mixKind P w)))/\(xs.map (·.1)).Nodup
 | .set S n=>h.SetOf (intKind P w) a S n
 | .ins C dx fs=>H dx=some (.own a)/\fs.length<=1000/\dx≠a/\h.get? a=some (PySem.W.instObj C dx) /\
   ∃ mA,h.Ns1 dx mA/\(∀ f,RelO (fs.lookup f) (mA f))/\PySem.Within mA (fs.map (·.1))
 | .own _=>∃ o,h.get? a=some o
 | .xd fs=>∃ mA,h.Ns1 a mA/\∀ f,RelO (fs.lookup f) (mA f)
 | .rng lo hi=>∃ t u v,h.get? a=some { cls:=.type "range",data:=.fields #[.int lo t,.int hi u,.int 1 v] }
 | .frz o u=>h.get? a=some o/\ObjOk H h a u
 | .tbl ps=>h.get? a=some { cls:=.none,data:=.fields ps }
 | .met f x=>h.get? a=some (PySem.W.methodObj (.ref f) (.ref x))
 | .ext φ=>φ h/\(∃ o,h.get? a=some o)/\∀ h1 h2:Heap,φ h1->(∀ o,h1.get? a=some o->h2.get? a=some o)->φ h2
noncomputable def HOk(H:Hp)(h:Heap):Prop:=∀ a o,H a=some o->ObjOk P w H h a o
end
section
variable{P:Program}{w:World}{H H':Hp}{h h':Heap}{a:Addr}{o:HO}
theorem ObjOk.lt(x:ObjOk P w H h a o):a<h.objs.size:=by
 cases o with
 |lst xs=>obtain⟨_,_,_,_,e⟩:=x;exact Heap.lt_size e
 |tup xs=>obtain⟨_,_,_,p⟩:=x;exact p.lt
 |dK kvs=>obtain⟨_,_,_,_,o,_,_,e,_⟩:=x;exact Heap.lt_size e
 |dT kvs=>obtain⟨_,_,_,_,o,_,_,e,_⟩:=x;exact Heap.lt_size e
 |set S n=>obtain⟨o,_,_,_,e,_⟩:=x;exact Heap.lt_size e
 |ins C dx fs=>obtain⟨_,_,_,e,_⟩:=x;exact Heap.lt_size e
 |own y=>obtain⟨_,e⟩:=x;exact Heap.lt_size e
 |xd fs=>obtain⟨_,⟨_,_,_,e,_⟩,_⟩:=x;exact Heap.lt_size e
 |rng lo hi=>obtain⟨_,_,_,e⟩:=x;exact Heap.lt_size e
 |frz ob u=>obtain⟨e,_⟩:=x;exact Heap.lt_size e
 |tbl ps=>exact Heap.lt_size (show h.get? a=some _ from x)
 |met f y=>exact Heap.lt_size (show h.get? a=some _ from x)
 |ext φ=>obtain⟨_,⟨_,e⟩,_⟩:=x;exact Heap.lt_size e
theorem Paired.mapP{α β:Type}{F G:α->β->Prop}:∀ {l₁:List α}{l₂:List β},Paired F l₁ l₂->(∀ a b,F a b->G a b)->Paired G l₁ l₂
 | _,_,.nil,_=>.nil
 | _,_,.cons r t,f=>.cons (f _ _ r) (Paired.mapP t f)
theorem ObjOk.stay(x:ObjOk P w H h a o)(k:∀ b u,(b=a\/H b=some (.own a))->h.get? b=some u->h'.get? b=some u)
  (ho:∀ b,H b=some (.own a)->H' b=some (.own a)) (ht:∀ b xs,H b=some (.tup xs)->H' b=some (.tup xs)):ObjOk P w H' h' a o:=by
 induction o with
 |lst xs=>obtain⟨z,its,n,r,e⟩:=x;exact⟨z,its,n,r,k _ _ (.inl rfl) e⟩
 |tup xs=>obtain⟨z,its,r,ob,e,c⟩:=x;exact⟨z,its,r,ob,k _ _ (.inl rfl) e,c⟩
 |dK kvs=>obtain⟨z,y,vs,r,ob,es,ep,e,c⟩:=x;exact⟨z,y,vs,r,ob,es,ep,k _ _ (.inl rfl) e,c⟩
 |dT kvs =>
  obtain⟨z,y,xs,r,ob,es,ep,e,c⟩:=x
  exact⟨z,y,xs,Paired.mapP r fun p q z=>⟨z.1,ht _ _ z.2.1,z.2.2⟩,ob,es,ep,k _ _ (.inl rfl) e,c⟩
 |set S n=>obtain⟨ob,es,ep,t,e,c⟩:=x;exact⟨ob,es,ep,t,k _ _ (.inl rfl) e,c⟩
 |ins C dx fs =>
  obtain⟨d,z,ne,e,mA,⟨od,es,ep,e2,c⟩,r⟩:=x
  exact⟨ho _ d,z,ne,k _ _ (.inl rfl) e,mA,⟨od,es,ep,k _ _ (.inr d) e2,c⟩,r⟩
 |own y=>obtain⟨ob,e⟩:=x;exact⟨ob,k _ _ (.inl rfl) e⟩
 |xd fs=>obtain⟨mA,⟨od,es,ep,e,c⟩,r⟩:=x;exact⟨mA,⟨od,es,ep,k _ _ (.inl rfl) e,c⟩,r⟩
 |rng lo hi=>obtain⟨t,u,v,e⟩:=x;exact⟨t,u,v,k _ _ (.inl rfl) e⟩
 |frz ob u ih=>obtain⟨e,q⟩:=x;exact⟨k _ _ (.inl rfl) e,ih q⟩
 |tbl ps =>
  have e:h.get? a=some { cls:=.none,data:=.fields ps }:=x
  show h'.get? a=some { cls:=.none,data:=.fields ps }
  exact k a _ (.inl rfl) e
 |met f y =>
  have e:h.get? a=some (PySem.W.methodObj (.ref f) (.ref y)):=x
  show h'.get? a=some (PySem.W.methodObj (.ref f) (.ref y))
  exact k a _ (.inl rfl) e
 |ext φ=>obtain⟨p,⟨o,e⟩,st⟩:=x;exact⟨st _ _ p fun o q=>k _ _ (.inl rfl) q,⟨o,k _ _ (.inl rfl) e⟩,st⟩
theorem HOk.lt(x:HOk P w H h)(e:H a=some o):a<h.objs.size:=(x a o e).lt
theorem HOk.fresh(x:HOk P w H h)(e:h.objs.size<=a):H a=none:=by
 cases q:H a with
 |none=>rfl
 |some u=>exact absurd (Nat.lt_of_lt_of_le (x.lt q) e) (Nat.lt_irrefl _)
theorem HOk.kept(x:HOk P w H h)(k:∀ b u,h.get? b=some u->h'.get? b=some u):HOk P w H h':=fun a o e =>
 (x a o e).stay (fun b u _ q=>k b u q) (fun _ q=>q) fun _ _ q=>q
theorem HOk.laid(x:HOk P w H h)(k:∀ b u,h.get? b=some u->h'.get? b=some u)(hp:h.objs.size<=a)(new:ObjOk P w (upd H a o) h' a o):HOk P w (upd H a o) h':=fun b u e=>by
 have hn:=x.fresh hp
 by_cases hb:b=a
 ·subst hb;rw[upd_same]at e;cases e;exact new
 ·rw[upd_ne hb]at e
  exact(x b u e).stay (fun c v _ q=>k c v q) (fun c q=>by rw[upd_ne (ne_of_none q hn)];exact q) fun c xs q=>by rw[upd_ne (ne_of_none q hn)];exact q
end
noncomputable def Rd(H:Hp)(a:Addr)(u:HO):Prop:=H a=some u\/∃ o,H a=some (.frz o u)
theorem Rd.ok{P:Program}{w:World}{H:Hp}{h:Heap}{a:Addr}{u:HO}(r:Rd H a u)(x:HOk P w H h):ObjOk P w H h a u:=by
 rcases r with r |⟨o,r⟩
 ·exact x a u r
 ·obtain⟨_,q⟩:=x a _ r
  exact q
noncomputable def Mut:Option HO->Prop
 |some (.lst _)=>True
 |some (.dK _)=>True
 |some (.dT _)=>True
 |some (.set _ _)=>True
 |some (.ins _ _ _)=>True
 |some (.ext _)=>True
 | _=>False
section
variable{P:Program}{w:World}{H:Hp}{h h':Heap}{x e:Addr}{o':HO}
theorem HOk.write(ok:HOk P w H h)(mu:Mut (H x))(he:e=x\/H e=some (.own x))(k:∀ b u,b≠e->h.get? b=some u->h'.get? b=some u)(heo:∃ u,h'.get? e=some u)
  (new:ObjOk P w (upd H x o') h' x o'):HOk P w (upd H x o') h':=fun b u q=>by
 have nown:∀ c y,H c=some (.own y)->c≠x:=fun c y r z=>by subst z;rw[r]at mu;exact mu
 have ntup:∀ c xs,H c=some (.tup xs)->c≠x:=fun c xs r z=>by subst z;rw[r]at mu;exact mu
 by_cases hb:b=x
 ·subst hb;rw[upd_same]at q;cases q;exact new
 ·rw[upd_ne hb]at q
  by_cases hbe:b=e
  ·have q':H b=some (.own x):=by
    rcases he with z | z
    ·exact absurd (hbe.trans z) hb
    ·rw[hbe];exact z
   rw[q]at q';cases q'
   obtain⟨v,hv⟩:=heo
   exact⟨v,by rw[hbe];exact hv⟩
  ·refine(ok b u q).stay (fun c v hc r=>k c v ?_ r) (fun c r=>by rw[upd_ne (nown c b r)];exact r) fun c xs r=>by rw[upd_ne (ntup c xs r)];exact r
   rcases hc with rfl | hc
   ·exact hbe
   ·rintro rfl
    rcases he with z | z
    ·exact nown c b hc z
    ·rw[hc]at z;cases z;exact hb rfl
end
structure Un(fs ex:List Addr)(H H':Hp)(h h':Heap):Prop where
 keep:∀ b o,h.get? b=some o->H b=none->b∉fs->b∉ex->h'.get? b=some o
 slot:∀ b o,h.get? b=some o->H b=none->b∈fs->b∉ex->∃ sl,h'.get? b=some { o with slots:=sl }
 free:∀ b o,h.get? b=some o->H b=none->b∉ex->H' b=none
 there:∀ b o,h.get? b=some o->b∉ex->∃ o',h'.get? b=some o'
 tups:∀ b xs,H b=some (.tup xs)->H' b=some (.tup xs)
 frzs:∀ b o u,H b=some (.frz o u)->H' b=some (.frz o u)
 tbls:∀ b ps,H b=some (.tbl ps)->∃ more,H' b=some (.tbl (ps++more))
section
variable{fs fs' ex ex':List Addr}{H H1 H2:Hp}{h h1 h2 h':Heap}{a x e:Addr}{o:HO}
theorem Un.any(u:Un fs ex H H1 h h1){b:Addr}{ob:Obj}(q:h.get? b=some ob)(n:H b=none)(hx:b∉ex):∃ sl,h1.get? b=some { ob with slots:=sl }:=by
 by_cases hb:b∈fs
 ·exact u.slot b ob q n hb hx
 ·exact⟨ob.slots,u.keep b ob q n hb hx⟩
theorem Un.kept(k:∀ b u,h.get? b=some u->h'.get? b=some u):Un fs ex H H h h' :=
 ⟨fun b ob q _ _ _=>k b ob q,fun b ob q _ _ _=>⟨ob.slots,k b ob q⟩,fun _ _ _ n _=>n,fun b ob q _=>⟨ob,k b ob q⟩,fun _ _ q=>q,fun _ _ _ q=>q,fun _ ps q=>⟨#[],by rw[q];simp⟩⟩
theorem Un.refl:Un fs ex H H h h:=Un.kept fun _ _ q=>q
theorem Un.laid(k:∀ b u,h.get? b=some u->h'.get? b=some u)(hp:h.objs.size<=a)(hn:H a=none):Un fs ex H (upd H a o) h h' where
 keep:=fun b u q _ _ _=>k b u q
 slot:=fun b u q _ _ _=>⟨u.slots,k b u q⟩
 free:=fun b u q n _=>by rw[upd_ne (Nat.ne_of_lt (Nat.lt_of_lt_of_le (Heap.lt_size q) hp))];exact n
 there:=fun b u q _=>⟨u,k b u q⟩
 tups:=fun b xs q=>by rw[upd_ne (ne_of_none q hn)];exact q
 frzs:=fun b u xs q=>by rw[upd_ne (ne_of_none q hn)];exact q
 tbls:=fun b ps q=>⟨#[],by rw[upd_ne (ne_of_none q hn),q];simp⟩
theorem Un.write(mu:Mut (H x))(he:e=x\/H e=some (.own x))(k:∀ b u,b≠e->h.get? b=some u->h'.get? b=some u)(heo:∃ u,h'.get? e=some u):Un fs ex H (upd H x o) h h':=by
 have hx:∀ b,H b=none->b≠x:=fun b n z=>by subst z;rw[n]at mu;exact mu
 have hb:∀ b,H b=none->b≠e:=fun b n z=>by
  subst z
  rcases he with r | r
  ·exact hx b n r
  ·rw[n]at r;cases r
 have hm:∀ b u,H b=some u->¬ Mut (some u)->b≠x:=fun b u q nm z=>by subst z;rw[q]at mu;exact nm mu
 refine⟨fun b u q n _ _=>k b u (hb b n) q,fun b u q n _ _=>⟨u.slots,k b u (hb b n) q⟩,fun b u q n _=>by rw[upd_ne (hx b n)];exact n,fun b u q _=>?_,
  fun b xs q=>by rw[upd_ne (hm b _ q fun z=>z)];exact q,fun b u xs q=>by rw[upd_ne (hm b _ q fun z=>z)];exact q,fun b ps q=>⟨#[],by rw[upd_ne (hm b _ q fun z=>z),q];simp⟩⟩
 by_cases hbe:b=e
 ·subst hbe;exact heo
 ·exact⟨u,k b u hbe q⟩
end
noncomputable def trk(h:Heap)(H:Hp):List Addr:=(List.range h.objs.size).filter fun a=>(H a).isSome
noncomputable def hidT(h:Heap)(H:Hp):Heap:=PySem.W.hideAll h (trk h H)
theorem hidT_size(h:Heap)(H:Hp):(hidT h H).objs.size=h.objs.size:=PySem.W.hideAll_size _ _
theorem hidT_get{h:Heap}{H:Hp}{b:Addr}{o:Obj}(e:h.get? b=some o)(n:H b=none):(hidT h H).get? b=some o :=
 PySem.W.hideAll_get _ e fun hm=>by
  have q:(H b).isSome=true:=(List.mem_filter.mp hm).2
  rw[n]at q;simp at q
theorem of_hidT{h:Heap}{H:Hp}{b:Addr}{o:Obj}(e:(hidT h H).get? b=some o):h.get? b=some o/\H b=none:=by
 have e':h.get? b=some o:=PySem.W.of_hideAll (trk h H) e
 refine⟨e',?_⟩
 cases q:H b with
 |none=>rfl
 |some x =>
  have hm:b∈trk h H:=List.mem_filter.mpr ⟨List.mem_range.mpr (Heap.lt_size e'),by simp[q]⟩
  have z:(hidT h H).get? b=none:=PySem.W.hideAll_none (trk h H) hm
  rw[z]at e;cases e
open PySem PySem.Spec PyProof.Rows
structure Mod(K:PySem.W.Frag)(mg:Str->Option Value)(base:Heap):Prop where
 kin:K.In base
 glob:base.Ns mainGlobals mg
 blt:∃ mb,base.Ns builtinsNs mb/\∀ x:Str,x≠"__name__"->mb x=bootBuiltins x
 nolimit:base.NoLimit
structure Cx where
 prog:Program
 w:World
 K:PySem.W.Frag
 mg:Str->Option Value
 base:Heap
 A:Around
 N:List Str
 s₀:Shared
 H₀:Hp
 env:Env
 outer:List Env
 stack:List Env
 ex:List Addr
 fn:Str->Bool
 calm:Bool
 pn:List (Addr×Obj)
 xe:Value->Shared->Prop
noncomputable def frs(l:List Env):List Addr:=l.filterMap (·.frame)
noncomputable abbrev Cx.fs(X:Cx):List Addr:=frs X.outer
noncomputable def Vis(sc:Scope)(x:Str):Prop:=sc.names.lookup x=some .local\/sc.names.lookup x=some .cell\/sc.names.lookup x=some .free
noncomputable def Loc(sc:Scope)(x:Str):Prop:=sc.names.lookup x=some .local\/sc.names.lookup x=some .cell
noncomputable def Look(env:Env)(h:Heap)(m:Str->Option Value)(x:Str)(u:Value):Prop :=
 (env.kindOf x=some .local/\m x=some u)\/((env.kindOf x=some .cell\/env.kindOf x=some .free)/\∃ c,env.cells.lookup x=some c/\h.IsCell c (some u))
structure Cx.Ok(X:Cx):Prop where
 mod:Mod X.K X.mg X.base
 kind:X.env.scope.kind = .function
 glob:X.env.globals=mainGlobals
 blt:X.env.builtins=builtinsNs
 above:X.s₀.heap.objs.size<=X.env.locals
 inj:∀ x y c,X.env.cells.lookup x=some c->X.env.cells.lookup y=some c->x=y
 has:∀ x,(X.env.kindOf x=some .cell\/X.env.kindOf x=some .free)->∃ c,X.env.cells.lookup x=some c
 cab:∀ x c,X.fn x=true->X.env.cells.lookup x=some c->X.s₀.heap.objs.size<=c
 hd:X.calm=true->X.A.handled=none
 frames:X.A.frames=some X.stack
 stk:X.stack=X.outer\/(X.stack=X.env :: X.outer/\X.env.frame=some X.env.locals)
 exf:∀ b∈X.ex,b≠X.env.locals/\∀ x c,X.env.cells.lookup x=some c->c≠b
 bs:∀ b o,X.base.get? b=some o->X.s₀.heap.get? b=some o/\X.H₀ b=none
 bsz:X.base.objs.size<=X.s₀.heap.objs.size
 noex:∀ b o,X.base.get? b=some o->b∉X.ex
 exfs:∀ b∈X.ex,b∉X.fs
 funs:X.s₀.heap.FunFrames X.base X.outer
 frf:∀ b∈X.fs,X.H₀ b=none
structure Inv(X:Cx)(pins:List (Addr×Obj))(σ:List (Option V))(H:Hp)(s:Shared):Prop where
 ok:X.Ok
 os:s.os=X.s₀.os
 bare:AllBare s.gens
 base:Un X.fs X.ex X.H₀ H X.s₀.heap s.heap
 loc:∃ m,s.heap.Ns X.env.locals m/\∀ (i:Nat) (x:Str) (v:V),X.N[i]?=some x->σ[i]?=some (some v)->Vis X.env.scope x->∃ u,RelV v u/\Look X.env s.heap m x u
 cell:∀ x c,X.env.cells.lookup x=some c->∃ v,s.heap.IsCell c v
 free:H X.env.locals=none
 freeC:∀ x c,X.env.cells.lookup x=some c->H c=none
 pin:∀ p∈X.pn++pins,s.heap.get? p.1=some p.2/\H p.1=none/\p.1≠X.env.locals/\p.1∉X.fs/\∀ v,p.2.data≠.cell v
 hok:HOk X.prog X.w H s.heap
 len:σ.length=X.N.length
section
variable{X:Cx}{pins:List (Addr×Obj)}{σ:List (Option V)}{H H':Hp}{s:Shared}{h':Heap}
theorem Cx.Ok.nofr(ok:X.Ok){b:Addr}{o:Obj}(e:X.base.get? b=some o):b∉X.fs:=fun hb=>by
 have:=(ok.funs.mem hb).1
 rw[e]at this;cases this
theorem Inv.bs(I:Inv X pins σ H s):∀ b o,X.base.get? b=some o->s.heap.get? b=some o/\H b=none:=fun b o e =>
 ⟨I.base.keep b o (I.ok.bs b o e).1 (I.ok.bs b o e).2 (I.ok.nofr e) (I.ok.noex b o e),I.base.free b o (I.ok.bs b o e).1 (I.ok.bs b o e).2 (I.ok.noex b o e)⟩
theorem Inv.bk(I:Inv X pins σ H s):∀ b o,X.base.get? b=some o->s.heap.get? b=some o:=fun b o e=>(I.bs b o e).1
theorem Inv.mod(I:Inv X pins σ H s):Mod X.K X.mg X.base:=I.ok.mod
theorem Inv.kIn(I:Inv X pins σ H s):X.K.In s.heap:=I.ok.mod.kin.keeps I.bk
theorem Inv.nolimit(I:Inv X pins σ H s):s.heap.NoLimit:=I.ok.mod.nolimit.keeps I.bk
theorem Inv.lt(I:Inv X pins σ H s):X.env.locals<s.heap.objs.size:=let ⟨_,hn,_⟩:=I.loc;hn.lt
theorem Inv.sz(I:Inv X pins σ H s):X.s₀.heap.objs.size<=s.heap.objs.size:=Nat.le_trans I.ok.above (Nat.le_of_lt I.lt)
theorem Inv.nofs(I:Inv X pins σ H s){a:Addr}(h:s.heap.objs.size<=a):a∉X.fs:=fun hb=>by
 obtain⟨_,o,ho,_⟩:=I.ok.funs.mem hb
 exact absurd (Nat.lt_of_lt_of_le (Heap.lt_size ho) (Nat.le_trans I.sz h)) (Nat.lt_irrefl _)
theorem Inv.cne(I:Inv X pins σ H s):∀ x c,X.env.cells.lookup x=some c->c≠X.env.locals:=fun x c e z=>by
 obtain⟨v,o,ho,hd⟩:=I.cell x c e
 obtain⟨m,⟨o',es,ep,ho',hd',_⟩,_⟩:=I.loc
 rw[z,ho']at ho;cases ho;rw[hd']at hd;cases hd
theorem Inv.funs(I:Inv X pins σ H s):s.heap.FunFrames X.base X.outer:=by
 have all:∀ (l:List Env),(∀ b∈frs l,b∈X.fs)->X.s₀.heap.FunFrames X.base l->s.heap.FunFrames X.base l:=by
  intro l
  induction l with
  |nil=>intro _ _;trivial
  |cons env r ih =>
   intro hs hl
   obtain⟨hk,⟨L,o,hf,hn,ho,hd⟩,hr⟩:=hl
   have hL:L∈X.fs:=hs L (by unfold frs;rw[List.filterMap_cons,hf];exact List.mem_cons_self)
   obtain⟨sl,e⟩:=I.base.slot L o ho (I.ok.frf L hL) hL fun z=>I.ok.exfs L z hL
   exact⟨hk,⟨L,_,hf,hn,e,hd⟩,ih (fun b hb=>hs b (by unfold frs;rw[List.filterMap_cons,hf];exact List.mem_cons_of_mem _ hb)) hr⟩
 exact all X.outer (fun _ hb=>hb) I.ok.funs
theorem Inv.stack(I:Inv X pins σ H s):s.heap.FunFrames X.base X.stack:=by
 rcases I.ok.stk with e |⟨e,hf⟩
 ·rw[e];exact I.funs
 ·rw[e]
  obtain⟨m,hn,_⟩:=I.loc
  refine .cons (by rw[I.ok.kind];decide) hf hn ?_ I.funs
  exact Heap.get?_none_of_le (Nat.le_trans I.ok.bsz I.ok.above)
theorem Inv.stkSub(I:Inv X pins σ H s):∀ b∈frs X.stack,b∈X.env.locals :: X.fs:=fun b hb=>by
 rcases I.ok.stk with e |⟨e,hf⟩
 ·rw[e]at hb;exact List.mem_cons_of_mem _ hb
 ·rw[e]at hb
  unfold frs at hb
  rw[List.filterMap_cons,hf]at hb
  exact hb
theorem Inv.stkFree(I:Inv X pins σ H s):∀ b∈frs X.stack,H b=none:=fun b hb=>by
 rcases List.mem_cons.mp (I.stkSub b hb)with e | hb
 ·rw[e];exact I.free
 ·obtain⟨_,o,ho,_⟩:=I.ok.funs.mem hb
  exact I.base.free b o ho (I.ok.frf b hb) fun z=>I.ok.exfs b z hb
theorem Inv.step{g':Array GenState}{t':Nat}{d':Drawn}{ch:List Addr}(I:Inv X pins σ H s)
  (hch:∀ b∈ch,(b∈X.ex\/X.s₀.heap.objs.size<=b)/\b≠X.env.locals/\(∀ x c,X.env.cells.lookup x=some c->c≠b)/\∀ p∈X.pn++pins,p.1≠b)
  (keep:∀ b o,b≠X.env.locals->b∉X.fs->b∉ch->s.heap.get? b=some o->H b=none->h'.get? b=some o)
  (slot:∀ b o,b≠X.env.locals->b∈X.fs->b∉ch->s.heap.get? b=some o->H b=none->∃ sl,h'.get? b=some { o with slots:=sl }) (free:∀ b o,b∉ch->s.heap.get? b=some o->H b=none->H' b=none)
  (there:∀ b o,b∉ch->s.heap.get? b=some o->∃ o',h'.get? b=some o')
  (tups:∀ b xs,H b=some (.tup xs)->H' b=some (.tup xs)) (frzs:∀ b o u,H b=some (.frz o u)->H' b=some (.frz o u)) (tbls:∀ b ps,H b=some (.tbl ps)->∃ more,H' b=some (.tbl (ps++more)))
  (ns:∀ m,s.heap.Ns X.env.locals m->h'.Ns X.env.locals m) (hok:HOk X.prog X.w H' h') (hg:AllBare g') :
  Inv X pins σ H' { s with heap:=h',gens:=g',drawn:=d',toks:=t' }:=by
 have neL:∀ b o,X.s₀.heap.get? b=some o->b≠X.env.locals:=fun b o e=>Nat.ne_of_lt (Nat.lt_of_lt_of_le (Heap.lt_size e) I.ok.above)
 have neC:∀ b o,X.s₀.heap.get? b=some o->b∉X.ex->b∉ch:=fun b o e hx hb=>by
  rcases(hch b hb).1 with z | z
  ·exact hx z
  ·exact absurd (Nat.lt_of_lt_of_le (Heap.lt_size e) z) (Nat.lt_irrefl _)
 have cellK:∀ x c,X.env.cells.lookup x=some c->∀ v,s.heap.IsCell c v->h'.IsCell c v:=fun x c e v ⟨o,ho,hd⟩=>by
  have nch:c∉ch:=fun z=>(hch c z).2.2.1 x c e rfl
  by_cases hc:c∈X.fs
  ·obtain⟨sl,q⟩:=slot c o (I.cne x c e) hc nch ho (I.freeC x c e)
   exact⟨_,q,hd⟩
  ·exact⟨o,keep c o (I.cne x c e) hc nch ho (I.freeC x c e),hd⟩
 refine⟨I.ok,I.os,hg,⟨fun b o e n hb hx=>?_,fun b o e n hb hx=>?_,fun b o e n hx=>?_,fun b o e hx=>?_,fun b xs e=>tups b xs (I.base.tups b xs e),fun b o xs e=>frzs b o xs (I.base.frzs b o xs e),fun b ps e=>?_⟩,?_,fun x c e=>?_,?_,fun x c e=>?_,fun p hp=>?_,hok,I.len⟩
 ·exact keep b o (neL b o e) hb (neC b o e hx) (I.base.keep b o e n hb hx) (I.base.free b o e n hx)
 ·obtain⟨sl,e1⟩:=I.base.slot b o e n hb hx
  obtain⟨sl',e2⟩:=slot b _ (neL b o e) hb (neC b o e hx) e1 (I.base.free b o e n hx)
  exact⟨sl',e2⟩
 ·obtain⟨o',e1⟩:=I.base.there b o e hx
  exact free b o' (neC b o e hx) e1 (I.base.free b o e n hx)
 ·obtain⟨o',e1⟩:=I.base.there b o e hx
  exact there b o' (neC b o e hx) e1
 ·obtain⟨m1,e1⟩:=I.base.tbls b ps e
  obtain⟨m2,e2⟩:=tbls b _ e1
  exact⟨m1++m2,by rw[e2,Array.append_assoc]⟩
 ·obtain⟨m,hn,hl⟩:=I.loc
  refine⟨m,ns m hn,fun i x v e1 e2 e3=>?_⟩
  obtain⟨u,r,l⟩:=hl i x v e1 e2 e3
  refine⟨u,r,?_⟩
  rcases l with l |⟨k,c,e,z⟩
  ·exact .inl l
  ·exact .inr ⟨k,c,e,cellK x c e _ z⟩
 ·obtain⟨v,z⟩:=I.cell x c e
  exact⟨v,cellK x c e v z⟩
 ·obtain⟨m,⟨o,_,_,ho,_⟩,_⟩:=I.loc
  exact free _ o (fun z=>(hch _ z).2.1 rfl) ho I.free
 ·obtain⟨v,o,ho,hd⟩:=I.cell x c e
  exact free c o (fun z=>(hch c z).2.2.1 x c e rfl) ho (I.freeC x c e)
 ·obtain⟨e,n,ne,nf,d⟩:=I.pin p hp
  have nch:p.1∉ch:=fun z=>(hch p.1 z).2.2.2 p hp rfl
  exact⟨keep p.1 p.2 ne nf nch e n,free p.1 p.2 nch e n,ne,nf,d⟩
theorem Inv.un{t':Nat}(I:Inv X pins σ H s)(u:Un X.fs [] H H' s.heap h')(hok:HOk X.prog X.w H' h'):Inv X pins σ H' { s with heap:=h',toks:=t' }:=by
 obtain⟨m,⟨o,es,ep,ho,r⟩,_⟩:=id I.loc
 obtain⟨sl,hL⟩:=u.any ho I.free (by simp)
 exact I.step (g':=s.gens) (d':=s.drawn) (ch:=[]) (fun _ z=>nomatch z) (fun b o _ hb _ e n=>u.keep b o e n hb (by simp)) (fun b o _ hb _ e n=>u.slot b o e n hb (by simp)) (fun b o _ e n=>u.free b o e n (by simp)) (fun b o _ e=>u.there b o e (by simp)) u.tups u.frzs u.tbls (fun m' hm=>by
  obtain⟨o',es',ep',ho',r'⟩:=hm
  rw[ho]at ho';cases ho'
  exact⟨_,es',ep',hL,r'⟩) hok I.bare
theorem Inv.call{g':Array GenState}{t':Nat}{d':Drawn}{ch:List Addr}(I:Inv X pins σ H s)(u:Un (frs X.stack) ch H H' s.heap h')(hok:HOk X.prog X.w H' h')(hg:AllBare g')
  (hch:∀ b∈ch,(b∈X.ex\/X.s₀.heap.objs.size<=b)/\b≠X.env.locals/\(∀ x c,X.env.cells.lookup x=some c->c≠b)/\∀ p∈X.pn++pins,p.1≠b) :
  Inv X pins σ H' { s with heap:=h',gens:=g',drawn:=d',toks:=t' }:=by
 obtain⟨m,⟨o,es,ep,ho,r⟩,_⟩:=id I.loc
 obtain⟨sl,hL⟩:=u.any ho I.free fun z=>(hch _ z).2.1 rfl
 exact I.step (ch:=ch) hch (fun b o hL hb hc e n=>u.keep b o e n (fun z=>(List.mem_cons.mp (I.stkSub b z)).elim hL hb) hc) (fun b o _ _ hc e n=>u.any e n hc) (fun b o hc e n=>u.free b o e n hc) (fun b o hc e=>u.there b o e hc) u.tups u.frzs u.tbls (fun m' hm=>by
  obtain⟨o',es',ep',ho',r'⟩:=hm
  rw[ho]at ho';cases ho'
  exact⟨_,es',ep',hL,r'⟩) hok hg
theorem Inv.turned{t':Nat}{it:Addr}(I:Inv X pins σ H s)(k:∀ b o,b≠it->s.heap.get? b=some o->h'.get? b=some o)(hn:H it=none)(hL:it≠X.env.locals)
  (h1:it∈X.ex\/X.s₀.heap.objs.size<=it) (h2:∀ x c,X.env.cells.lookup x=some c->c≠it) (h3:∀ p∈X.pn++pins,p.1≠it):Inv X pins σ H { s with heap:=h',toks:=t' }:=by
 have nit:∀ b u,H b=some u->b≠it:=fun b u e z=>by rw[z,hn]at e;cases e
 refine I.step (g':=s.gens) (d':=s.drawn) (ch:=[it]) (fun b hb=>?_) (fun b o _ _ hc e _=>k b o (fun z=>hc (by simp[z])) e) (fun b o _ _ hc e _=>⟨o.slots,k b o (fun z=>hc (by simp[z])) e⟩) (fun _ _ _ _ n=>n)
  (fun b o hc e=>⟨o,k b o (fun z=>hc (by simp[z])) e⟩) (fun _ _ e=>e) (fun _ _ _ e=>e) (fun b ps e=>⟨#[],by rw[e];simp⟩) (fun m hm=>?_) (fun b u e=>?_) I.bare
 ·have e:b=it:=by simpa using hb
  subst e
  exact⟨h1,hL,h2,h3⟩
 ·obtain⟨o,es,ep,ho,r⟩:=hm
  exact⟨o,es,ep,k _ o (Ne.symm hL) ho,r⟩
 ·refine(I.hok b u e).stay (fun c v hc q=>k c v ?_ q) (fun _ q=>q) fun _ _ q=>q
  rcases hc with z | z
  ·rw[z];exact nit b u e
  ·exact nit c _ z
theorem Inv.tok(I:Inv X pins σ H s)(t:Nat):Inv X pins σ H { s with toks:=t }:=I.un (h':=s.heap) (t':=t) Un.refl I.hok
theorem Inv.kept{t':Nat}(I:Inv X pins σ H s)(k:∀ b u,s.heap.get? b=some u->h'.get? b=some u):Inv X pins σ H { s with heap:=h',toks:=t' }:=I.un (Un.kept k) (I.hok.kept k)
theorem Inv.laid{a:Addr}{o:HO}{t':Nat}(I:Inv X pins σ H s)(k:∀ b u,s.heap.get? b=some u->h'.get? b=some u)(hp:s.heap.objs.size<=a)(new:ObjOk X.prog X.w (upd H a o) h' a o) :
  Inv X pins σ (upd H a o) { s with heap:=h',toks:=t' }:=I.un (Un.laid k hp (I.hok.fresh hp)) (I.hok.laid k hp new)
theorem Inv.write{x e:Addr}{o:HO}{t':Nat}(I:Inv X pins σ H s)(mu:Mut (H x))(he:e=x\/H e=some (.own x))(k:∀ b u,b≠e->s.heap.get? b=some u->h'.get? b=some u)(heo:∃ u,h'.get? e=some u)
  (new:ObjOk X.prog X.w (upd H x o) h' x o):Inv X pins σ (upd H x o) { s with heap:=h',toks:=t' }:=I.un (Un.write mu he k heo) (I.hok.write mu he k heo new)
theorem Inv.weak{σ':List (Option V)}(I:Inv X pins σ H s)(hl:σ'.length=σ.length)(w:∀ (i:Nat) v,σ'[i]?=some (some v)->σ[i]?=some (some v)):Inv X pins σ' H s :=
 ⟨I.ok,I.os,I.bare,I.base,let ⟨m,hn,hl'⟩:=I.loc;⟨m,hn,fun i x v e1 e2 e3=>hl' i x v e1 (w i v e2) e3⟩,I.cell,I.free,I.freeC,I.pin,I.hok,hl.trans I.len⟩
theorem Inv.pins_of{pins':List (Addr×Obj)}(I:Inv X pins σ H s)(h:∀ p∈pins',s.heap.get? p.1=some p.2/\H p.1=none/\p.1≠X.env.locals/\p.1∉X.fs/\∀ v,p.2.data≠.cell v):Inv X pins' σ H s :=
 ⟨I.ok,I.os,I.bare,I.base,I.loc,I.cell,I.free,I.freeC,fun p hp=>(List.mem_append.mp hp).elim (fun z=>I.pin p (List.mem_append_left _ z)) (h p),I.hok,I.len⟩
theorem nodup_ix{N:List Str}(hN:N.Nodup){i j:Nat}{x:Str}(a:N[i]?=some x)(b:N[j]?=some x):i=j:=by
 obtain⟨h1,e1⟩:=List.getElem?_eq_some_iff.mp a
 obtain⟨h2,e2⟩:=List.getElem?_eq_some_iff.mp b
 exact(List.getElem_inj hN).mp (e1.trans e2.symm)
theorem store_ok2{M:Model}{A:Around}{E:Value->Shared->Prop}{i:Nat}{x:Str}{v:V}{u:Value}{Q:Unit->Shared->Prop}(I:Inv X pins σ H s)(hN:X.N.Nodup)(hi:X.N[i]?=some x)(hx:Loc X.env.scope x)(r:RelV v u)
  (h:∀ s',Inv X pins (σ.set i (some v)) H s'->(∃ a,Heap.SameBut a s.heap s'.heap/\(a=X.env.locals\/X.env.cells.lookup x=some a))->Q () s') (hf:X.fn x=true\/X.env.scope.names.lookup x=some .local:=by first | exact .inl rfl | exact .inr rfl | assumption):wpAny M A (storeName X.env x u) Q E s:=by
 obtain⟨m,hn,hl⟩:=id I.loc
 have hcls:(X.env.scope.kind == .class ||(X.env.scope.kind == .module && X.env.locals != X.env.globals))=false:=by rw[I.ok.kind];rfl
 have hiσ:i<σ.length:=by rw[I.len];exact(List.getElem?_eq_some_iff.mp hi).1
 have cne:=I.cne
 have tracked:∀ {a:Addr}{h':Heap},(∃ o,s.heap.get? a=some o/\H a=none)->Heap.SameBut a s.heap h'->HOk X.prog X.w H h':=fun {a h'} ha hs b ob e=>by
  obtain⟨_,_,hfree⟩:=ha
  refine(I.hok b ob e).stay (fun c w' hc q=>(hs.2 c ?_).trans q) (fun _ q=>q) fun _ _ q=>q
  rintro rfl
  rcases hc with rfl | hc
  ·rw[hfree]at e;cases e
  ·rw[hfree]at hc;cases hc
 rcases hx with hk | hk
 ·refine wpAny_storeName_local hk hn (fun h' hn' hs=>?_) hcls
  obtain⟨oL,_,_,hoL,_⟩:=id hn
  refine h _ ⟨I.ok,I.os,I.bare,⟨fun b o e n hb hx=>?_,fun b o e n hb hx=>?_,I.base.free,fun b o e hx=>?_,I.base.tups,I.base.frzs,I.base.tbls⟩,⟨_,hn',fun j y v' e1 e2 e3=>?_⟩,fun y c e=>?_,I.free,I.freeC,fun p hp=>?_,tracked ⟨oL,hoL,I.free⟩ hs,by simpa using I.len⟩ ⟨_,hs,.inl rfl⟩
  ·exact(hs.2 b (Nat.ne_of_lt (Nat.lt_of_lt_of_le (Heap.lt_size e) I.ok.above))).trans (I.base.keep b o e n hb hx)
  ·obtain⟨sl,e1⟩:=I.base.slot b o e n hb hx
   exact⟨sl,(hs.2 b (Nat.ne_of_lt (Nat.lt_of_lt_of_le (Heap.lt_size e) I.ok.above))).trans e1⟩
  ·obtain⟨o',e1⟩:=I.base.there b o e hx
   exact⟨o',(hs.2 b (Nat.ne_of_lt (Nat.lt_of_lt_of_le (Heap.lt_size e) I.ok.above))).trans e1⟩
  ·by_cases hj:j=i
   ·subst hj
    rw[hi]at e1;cases e1
    rw[List.getElem?_set_self hiσ]at e2
    cases e2
    exact⟨u,r,.inl ⟨hk,by simp⟩⟩
   ·rw[List.getElem?_set_ne (Ne.symm hj)]at e2
    obtain⟨u',r',q⟩:=hl j y v' e1 e2 e3
    refine⟨u',r',?_⟩
    rcases q with⟨k,e⟩ |⟨k,c,e,z⟩
    ·refine .inl ⟨k,?_⟩
     have:y≠x:=fun e=>hj (nodup_ix hN e1 (e▸hi))
     simp[this,e]
    ·exact .inr ⟨k,c,e,z.sameBut hs (cne y c e)⟩
  ·obtain⟨w',z⟩:=I.cell y c e
   exact⟨w',z.sameBut hs (cne y c e)⟩
  ·obtain⟨e,n,ne,nf,d⟩:=I.pin p hp
   exact⟨(hs.2 p.1 ne).trans e,n,ne,nf,d⟩
 ·have hfn:X.fn x=true:=by
   rcases hf with z | z
   ·exact z
   ·rw[z]at hk;cases hk
  obtain⟨c,hc⟩:=I.ok.has x (.inl hk)
  obtain⟨w',z⟩:=I.cell x c hc
  refine wpAny_storeName_cell I.ok.kind hk hc z (fun h' hc' hs=>?_)
  obtain⟨oc,hoc,hocd⟩:=id z
  refine h { s with heap:=h' } ⟨I.ok,I.os,I.bare,⟨fun b o e n hb hx=>?_,fun b o e n hb hx=>?_,I.base.free,fun b o e hx=>?_,I.base.tups,I.base.frzs,I.base.tbls⟩,⟨m,hn.sameBut hs (Ne.symm (cne x c hc)),fun j y v' e1 e2 e3=>?_⟩,fun y c' e=>?_,I.free,I.freeC,fun p hp=>?_,tracked ⟨oc,hoc,I.freeC x c hc⟩ hs,by simpa using I.len⟩ ⟨c,hs,.inr hc⟩
  ·exact(hs.2 b (Nat.ne_of_lt (Nat.lt_of_lt_of_le (Heap.lt_size e) (I.ok.cab x c hfn hc)))).trans (I.base.keep b o e n hb hx)
  ·obtain⟨sl,e1⟩:=I.base.slot b o e n hb hx
   exact⟨sl,(hs.2 b (Nat.ne_of_lt (Nat.lt_of_lt_of_le (Heap.lt_size e) (I.ok.cab x c hfn hc)))).trans e1⟩
  ·obtain⟨o',e1⟩:=I.base.there b o e hx
   exact⟨o',(hs.2 b (Nat.ne_of_lt (Nat.lt_of_lt_of_le (Heap.lt_size e) (I.ok.cab x c hfn hc)))).trans e1⟩
  ·by_cases hj:j=i
   ·subst hj
    rw[hi]at e1;cases e1
    rw[List.getElem?_set_self hiσ]at e2
    cases e2
    exact⟨u,r,.inr ⟨.inl hk,c,hc,hc'⟩⟩
   ·rw[List.getElem?_set_ne (Ne.symm hj)]at e2
    obtain⟨u',r',q⟩:=hl j y v' e1 e2 e3
    refine⟨u',r',?_⟩
    rcases q with q |⟨k,c',e,z'⟩
    ·exact .inl q
    ·refine .inr ⟨k,c',e,z'.sameBut hs ?_⟩
     rintro rfl
     exact hj (nodup_ix hN e1 (I.ok.inj _ _ _ e hc▸hi))
  ·by_cases hcc:c'=c
   ·subst hcc;exact⟨_,hc'⟩
   ·obtain⟨w2,z2⟩:=I.cell y c' e
    exact⟨w2,z2.sameBut hs hcc⟩
  ·obtain⟨e,n,ne,nf,d⟩:=I.pin p hp
   refine⟨(hs.2 p.1 ?_).trans e,n,ne,nf,d⟩
   intro q
   rw[q,hoc]at e
   have q':oc=p.2:=Option.some.inj e
   exact d w' (by rw[<- q'];exact hocd)
theorem store_ok{M:Model}{A:Around}{E:Value->Shared->Prop}{i:Nat}{x:Str}{v:V}{u:Value}{Q:Unit->Shared->Prop}(I:Inv X pins σ H s)(hN:X.N.Nodup)(hi:X.N[i]?=some x)(hx:Loc X.env.scope x)(r:RelV v u)
  (h:∀ s',Inv X pins (σ.set i (some v)) H s'->Q () s') (hf:X.fn x=true\/X.env.scope.names.lookup x=some .local:=by first | exact .inl rfl | exact .inr rfl | assumption):wpAny M A (storeName X.env x u) Q E s :=
 store_ok2 I hN hi hx r (fun s' I' _=>h s' I') hf
theorem Inv.call'{s':Shared}{ch:List Addr}(I:Inv X pins σ H s)(ho:s'.os=s.os)(u:Un (frs X.stack) ch H H' s.heap s'.heap)(hok:HOk X.prog X.w H' s'.heap)(hg:AllBare s'.gens)
  (hch:∀ b∈ch,(b∈X.ex\/X.s₀.heap.objs.size<=b)/\b≠X.env.locals/\(∀ x c,X.env.cells.lookup x=some c->c≠b)/\∀ p∈X.pn++pins,p.1≠b):Inv X pins σ H' s':=by
 obtain⟨h',g',d',t',o'⟩:=s'
 have e:o'=s.os:=ho
 subst e
 exact I.call (g':=g') (t':=t') (d':=d') u hok hg hch
end
noncomputable abbrev XK:=Value->Option Addr->Hp->Prop
noncomputable abbrev St:=List (Option V)
noncomputable abbrev VK:=V->Hp->Prop
noncomputable abbrev TE:=St->Hp->VK->Prop
noncomputable abbrev TT:=St->Hp->(Bool->Hp->Prop)->Prop
noncomputable abbrev TA:=St->Hp->(List V->Hp->Prop)->Prop
structure Ends where
 nx:St->Hp->Prop
 rt:VK
 bk:St->Hp->Prop:=fun _ _=>False
 ct:St->Hp->Prop:=fun _ _=>False
noncomputable abbrev TS:=Ends->St->Hp->Prop
noncomputable def EP(X:Cx)(pins:List (Addr×Obj))(σ:St)(Q:VK)(u:Value)(s':Shared):Prop:=∃ v H',Inv X pins σ H' s'/\RelV v u/\Q v H'
noncomputable def TP(X:Cx)(pins:List (Addr×Obj))(σ:St)(Q:Bool->Hp->Prop)(b:Bool)(s':Shared):Prop:=∃ H',Inv X pins σ H' s'/\Q b H'
noncomputable def AP(X:Cx)(pins:List (Addr×Obj))(σ:St)(Q:List V->Hp->Prop)(us:List Value)(s':Shared):Prop:=∃ vs H',Inv X pins σ H' s'/\Vals vs us/\Q vs H'
noncomputable def SP(X:Cx)(pins:List (Addr×Obj))(D:Ends)(f:Flow)(s':Shared):Prop :=
 match f with
 | .next=>∃ σ' H',Inv X pins σ' H' s'/\D.nx σ' H'
 | .brk=>∃ σ' H',Inv X pins σ' H' s'/\D.bk σ' H'
 | .cont=>∃ σ' H',Inv X pins σ' H' s'/\D.ct σ' H'
 | .ret u=>∃ v σ' H',Inv X pins σ' H' s'/\RelV v u/\D.rt v H'
noncomputable def PE(X:Cx)(e:Expr)(t:TE):Prop :=
 ∀ (pins:List (Addr×Obj)) (s:Shared) (σ:St) (H:Hp) (Q:VK),Inv X pins σ H s->t σ H Q->wpAny (model X.prog X.w) X.A (eval e X.env) (EP X pins σ Q) X.xe s
noncomputable def PT(X:Cx)(e:Expr)(t:TT):Prop :=
 ∀ (pins:List (Addr×Obj)) (s:Shared) (σ:St) (H:Hp) (Q:Bool->Hp->Prop),Inv X pins σ H s->t σ H Q->wpAny (model X.prog X.w) X.A (isTrue e X.env (eval e X.env)) (TP X pins σ Q) X.xe s
noncomputable def PW(X:Cx)(e:Expr)(t:TT):Prop :=
 ∀ (whole:Sem Value) (pins:List (Addr×Obj)) (s:Shared) (σ:St) (H:Hp) (Q:Bool->Hp->Prop),Inv X pins σ H s->t σ H Q->wpAny (model X.prog X.w) X.A (isTrue e X.env whole) (TP X pins σ Q) X.xe s
theorem PW.pt{X:Cx}{e:Expr}{t:TT}(h:PW X e t):PT X e t:=h _
noncomputable def PA(X:Cx)(es:List Expr)(t:TA):Prop :=
 ∀ (pos:Pos) (pins:List (Addr×Obj)) (s:Shared) (σ:St) (H:Hp) (Q:List V->Hp->Prop),Inv X pins σ H s->t σ H Q->wpAny (model X.prog X.w) X.A (spliced (backTo pos (starEach es X.env))) (AP X pins σ Q) X.xe s
noncomputable def PS(X:Cx)(st:Stmt)(t:TS):Prop :=
 ∀ (pins:List (Addr×Obj)) (s:Shared) (σ:St) (H:Hp) (D:Ends),Inv X pins σ H s->t D σ H->wpAny (model X.prog X.w) X.A (exec st X.env) (SP X pins D) X.xe s
noncomputable def PSs(X:Cx)(st:List Stmt)(t:TS):Prop :=
 ∀ (pins:List (Addr×Obj)) (s:Shared) (σ:St) (H:Hp) (D:Ends),Inv X pins σ H s->t D σ H->wpAny (model X.prog X.w) X.A (execs st X.env) (SP X pins D) X.xe s
theorem thn{α:Type}{t:Sem α}{Q Q':α->Shared->Prop}{M:Model}{A:Around}{E:Value->Shared->Prop}{s:Shared}(h:wpAny M A t Q E s)(hQ:∀ a s,Q a s->Q' a s):wpAny M A t Q' E s:=wpAny_mono h hQ fun _ _ x=>x
open PySem PySem.Spec PyProof.Rows
section
variable{X:Cx}
inductive Ex4{t0 t1 t2 t3:Type}(P:t0->t1->t2->t3->Prop):Prop where
 |mk (a0:t0) (a1:t1) (a2:t2) (a3:t3) (h:P a0 a1 a2 a3)
inductive Ex5{t0 t1 t2 t3 t4:Type}(P:t0->t1->t2->t3->t4->Prop):Prop where
 |mk (a0:t0) (a1:t1) (a2:t2) (a3:t3) (a4:t4) (h:P a0 a1 a2 a3 a4)
inductive Ex7{t0 t1 t2 t3 t4 t5 t6:Type}(P:t0->t1->t2->t3->t4->t5->t6->Prop):Prop where
 |mk (a0:t0) (a1:t1) (a2:t2) (a3:t3) (a4:t4) (a5:t5) (a6:t6) (h:P a0 a1 a2 a3 a4 a5 a6)
inductive tVarI(i:Nat)(σ:St)(H:Hp)(Q:VK):Prop where
 |mk (v:_) (h1:σ[i]?=some (some v)) (h2:Q v H)
noncomputable def tVar(i:Nat):TE:=fun σ H Q=>tVarI i σ H Q
noncomputable def tC(v:V):TE:=fun _ H Q=>Q v H
theorem pe_var{i:Nat}{x:Str}{pos:Pos}(hN:X.N[i]?=some x)(hv:Vis X.env.scope x)(hd:(x ==("__debug__":Str))=false:=by decide)(hcd:(x ==("__classdict__":Str))=false:=by decide):PE X (.Name x pos) (tVar i):=by
 intro pins s σ H Q I h
 obtain⟨v,e,h⟩:=h
 obtain⟨m,hn,hl⟩:=I.loc
 obtain⟨u,r,l⟩:=hl i x v hN e hv
 have fin:EP X pins σ Q u s:=⟨v,H,I,r,h⟩
 rcases l with⟨hk,hm⟩ |⟨hk,c,hc,hcell⟩
 ·exact wpAny_Name (wpAny_loadName_local I.ok.kind hk hn hm fin) hd
 ·rcases hk with hk | hk
  ·exact wpAny_Name (wpAny_loadName_cell I.ok.kind hk hc hcell fin) hd
  ·exact wpAny_Name (wpAny_loadName_free I.ok.kind hk hc hcell fin hcd) hd
theorem pe_int{i j pos}:PE X (.Constant (.int i) j pos) (tC (.int i)):=fun _ _ _ H _ I h=>wpAny_Constant_int ⟨.int i,H,I.tok _,⟨_,rfl⟩,h⟩
theorem pe_bl{b j pos}:PE X (.Constant (.bool b) j pos) (tC (.bl b)):=fun _ _ _ H _ I h=>Constant_bool ⟨.bl b,H,I,rfl,h⟩
theorem pe_non{j pos}:PE X (.Constant .none j pos) (tC .non):=fun _ _ _ H _ I h=>Constant_none ⟨.non,H,I,rfl,h⟩
noncomputable def Gl(X:Cx)(x:Str):Prop:=X.env.kindOf x=some .globalImplicit
theorem ld_glob{E:Value->Shared->Prop}{pins:List (Addr×Obj)}{s:Shared}{σ:St}{H:Hp}{x:Str}{u:Value}{pos:Pos}{Q:Value->Shared->Prop}(I:Inv X pins σ H s)(hg:Gl X x)(hm:X.mg x=some u)(h:Q u s)
  (hd:(x ==("__debug__":Str))=false:=by decide):wpAny (model X.prog X.w) X.A (eval (.Name x pos) X.env) Q E s :=
 Calls.Name_function_global I.ok.kind hg (Calls.loadGlobal_global (by rw[I.ok.glob];exact I.mod.glob.keeps I.bk) hm h) hd
theorem ld_blt{E:Value->Shared->Prop}{pins:List (Addr×Obj)}{s:Shared}{σ:St}{H:Hp}{x:Str}{u:Value}{pos:Pos}{Q:Value->Shared->Prop}(I:Inv X pins σ H s)(hg:Gl X x)(hm:X.mg x=none)(hv:bootBuiltins x=some u)(h:Q u s)
  (hn:x≠"__name__":=by decide) (hd:(x ==("__debug__":Str))=false:=by decide):wpAny (model X.prog X.w) X.A (eval (.Name x pos) X.env) Q E s:=by
 obtain⟨mb,h1,h2⟩:=I.mod.blt
 exact Calls.Name_function_global I.ok.kind hg (Calls.loadGlobal_builtin (by rw[I.ok.glob];exact I.mod.glob.keeps I.bk) hm (by rw[I.ok.blt];exact h1.keeps I.bk) ((h2 x hn).trans hv) h) hd
variable{a b:Expr}{ta tb:TE}{pos:Pos}
noncomputable def PC(X:Cx)(op:CmpOp)(a b:Expr)(t:TE):Prop :=
 ∀ (pins:List (Addr×Obj)) (s:Shared) (σ:St) (H:Hp) (Q:VK),Inv X pins σ H s->t σ H Q ->
  wpAny (model X.prog X.w) X.A (eval a X.env) (fun v s₁=>wpAny (model X.prog X.w) X.A (eval b X.env) (fun u s₂=>wpAny (model X.prog X.w) X.A (compareOp op v u) (EP X pins σ Q) X.xe s₂) X.xe s₁) X.xe s
theorem nobehind(b:Expr){op:CmpOp}(h:op≠.In)(h2:op≠.NotIn):behindInMarks op b=false:=by
 have e1:(op == CmpOp.In)=false:=by cases op <;> first | rfl | exact absurd rfl h
 have e2:(op == CmpOp.NotIn)=false:=by cases op <;> first | rfl | exact absurd rfl h2
 cases b <;> simp[behindInMarks,e1,e2]
noncomputable def tIsN(ta:TE):TE:=fun σ H Q=>ta σ H fun x H1=>Q (.bl (decide (x = .non))) H1
noncomputable def tNotN(ta:TE):TE:=fun σ H Q=>ta σ H fun x H1=>Q (.bl (!decide (x = .non))) H1
theorem RelV.none_iff{x:V}{v:Value}(r:RelV x v):(v == Value.none)=decide (x = .non):=by
 cases x with
 |non=>cases r;rfl
 |bl _=>cases r;rfl
 |int _=>obtain⟨t,rfl⟩:=r;rfl
 |str _=>obtain⟨t,rfl⟩:=r;rfl
 |byt _=>obtain⟨t,rfl⟩:=r;rfl
 |flt _=>obtain⟨t,rfl⟩:=r;rfl
 |ref _=>cases r;rfl
 |ty _=>cases r;rfl
theorem pc_isN{j pos'}(ha:PE X a ta):PC X .Is a (.Constant .none j pos') (tIsN ta):=by
 intro pins s σ H Q I h
 refine thn (ha pins s σ H _ I h) fun v s1 ⟨x,H1,I1,r1,q1⟩=>?_
 exact Constant_none (is_none_gen ⟨.bl _,H1,I1,by rw[r1.none_iff];rfl,q1⟩)
theorem pc_notN{j pos'}(ha:PE X a ta):PC X .IsNot a (.Constant .none j pos') (tNotN ta):=by
 intro pins s σ H Q I h
 refine thn (ha pins s σ H _ I h) fun v s1 ⟨x,H1,I1,r1,q1⟩=>?_
 exact Constant_none (isnot_none_gen ⟨.bl _,H1,I1,by rw[r1.none_iff];rfl,q1⟩)
inductive ExB(x:V)(Q:Bool->Prop):Prop where
 |mk (c:Bool) (e:x = .bl c) (h:Q c)
noncomputable def tB(t:TE):TT:=fun σ H Q=>t σ H fun x H1=>ExB x fun c=>Q c H1
theorem pt_cmp{op:CmpOp}{t:TE}(h:PC X op a b t)(h1:behindInMarks op b=false:=by first | exact nobehind _ (by decide) (by decide) | rfl):PT X (.Compare a [op] [b] pos) (tB t):=by
 intro pins s σ H Q I hw
 refine wpAny_isTrue_Compare1 (thn (h pins s σ H _ I hw) fun v s1 h1=>thn h1 fun u s2 h2=>thn h2 fun c s3 ⟨x,H1,I1,r1,q1⟩=>?_) h1
 obtain⟨d,rfl,q⟩:=q1
 cases r1
 exact wpAny_truthy_bool ⟨H1,I1,q⟩
theorem pt_val{e:Expr}{t:TE}(h:PE X e t)(he:∀ whole,isTrue e X.env whole=(do let v <- whole;standAt e.pos;holding [v] (truthy v)):=by intro _;rfl):PT X e (tB t):=by
 intro pins s σ H Q I hw
 refine isTrue_plain (thn (h pins s σ H _ I hw) fun v s1 ⟨x,H1,I1,r1,q1⟩=>?_) (he _)
 obtain⟨d,rfl,q⟩:=q1
 cases r1
 exact wpAny_truthy_bool ⟨H1,I1,q⟩
variable{tA tB':TT}{rest:List Expr}
noncomputable def tAnd(t u:TT):TT:=fun σ H Q=>t σ H fun c H1=>if c=true then u σ H1 Q else Q false H1
noncomputable def tOr(t u:TT):TT:=fun σ H Q=>t σ H fun c H1=>if c=true then Q true H1 else u σ H1 Q
noncomputable def tNot(t:TT):TT:=fun σ H Q=>t σ H fun c H1=>Q (!c) H1
theorem pw_and1(ha:PT X a tA):PW X (.BoolOp .And [a] pos) tA:=by
 intro wh pins s σ H Q I h
 refine isTrue_and (thn (ha pins s σ H Q I h) fun c s1 e=>?_)
 cases c with
 |true=>exact isTrue_and_nil e
 |false=>exact e
theorem pw_or1(ha:PT X a tA):PW X (.BoolOp .Or [a] pos) tA:=by
 intro wh pins s σ H Q I h
 refine isTrue_or (thn (ha pins s σ H Q I h) fun c s1 e=>?_)
 cases c with
 |false=>exact isTrue_or_nil e
 |true=>exact e
theorem pw_and(ha:PT X a tA)(hb:PW X (.BoolOp .And (b :: rest) pos) tB'):PW X (.BoolOp .And (a :: b :: rest) pos) (tAnd tA tB'):=by
 intro wh pins s σ H Q I h
 refine isTrue_and (thn (ha pins s σ H _ I h) fun c s1 ⟨H1,I1,q1⟩=>?_)
 cases c with
 |true=>exact hb wh pins s1 σ H1 Q I1 q1
 |false=>exact⟨H1,I1,q1⟩
theorem pw_or(ha:PT X a tA)(hb:PW X (.BoolOp .Or (b :: rest) pos) tB'):PW X (.BoolOp .Or (a :: b :: rest) pos) (tOr tA tB'):=by
 intro wh pins s σ H Q I h
 refine isTrue_or (thn (ha pins s σ H _ I h) fun c s1 ⟨H1,I1,q1⟩=>?_)
 cases c with
 |true=>exact⟨H1,I1,q1⟩
 |false=>exact hb wh pins s1 σ H1 Q I1 q1
theorem pt_not(ha:PT X a tA):PT X (.UnaryOp .Not a pos) (tNot tA):=by
 intro pins s σ H Q I h
 exact isTrue_not (ha pins s σ H (fun c H1=>Q (!c) H1) I h)
noncomputable def tIf(t:TT)(ta tb:TE):TE:=fun σ H Q=>t σ H fun c H1=>if c=true then ta σ H1 Q else tb σ H1 Q
theorem pe_ifExp{c:Expr}(hc:PT X c tA)(ha:PE X a ta)(hb:PE X b tb):PE X (.IfExp c a b pos) (tIf tA ta tb):=by
 intro pins s σ H Q I h
 refine wpAny_IfExp (thn (hc pins s σ H _ I h) fun d s1 ⟨H1,I1,q1⟩=>?_)
 cases d with
 |true=>exact ha pins s1 σ H1 Q I1 q1
 |false=>exact hb pins s1 σ H1 Q I1 q1
end
open PySem PySem.Spec PyProof.Rows
noncomputable def SqL(K:PySem.W.Frag)(H:Hp)(a:Addr)(xs:List V):Prop :=
 Rd H a (.lst xs) \/
  ∃ (o:Obj) (its:Array Value) (n:Nat),K.lookup a=some o/\o.cls = .type "list"/\o.dict=none/\o.data = .seq its n/\its.size<=sizeLine/\Vals xs its.toList
noncomputable def SqT(K:PySem.W.Frag)(H:Hp)(a:Addr)(xs:List V):Prop :=
 Rd H a (.tup xs) \/
  ∃ (o:Obj) (its:Array Value) (n:Nat),K.lookup a=some o/\o.cls = .type "tuple"/\o.data = .seq its n/\its.size<=sizeLine/\Vals xs its.toList
noncomputable def absV:Value->Option V
 | .none=>some .non
 | .bool b=>some (.bl b)
 | .int i _=>some (.int i)
 | .str x _=>some (.str x)
 | .bytes b _=>some (.byt b)
 | .float b _=>some (.flt b)
 | .ref a=>some (.ref a)
 | .type n=>some (.ty n)
 | _=>none
theorem RelV.abs{x:V}{u:Value}(r:RelV x u):absV u=some x:=by
 cases x with
 |non=>cases r;rfl
 |bl _=>cases r;rfl
 |int _=>obtain⟨t,rfl⟩:=r;rfl
 |str _=>obtain⟨t,rfl⟩:=r;rfl
 |byt _=>obtain⟨t,rfl⟩:=r;rfl
 |flt _=>obtain⟨t,rfl⟩:=r;rfl
 |ref _=>cases r;rfl
 |ty _=>cases r;rfl
theorem RelV.inj{x y:V}{u:Value}(r:RelV x u)(q:RelV y u):x=y:=Option.some.inj (r.abs.symm.trans q.abs)
theorem Vals.inj:∀ {xs ys:List V}{us:List Value},Vals xs us->Vals ys us->xs=ys:=by
 intro xs ys us h
 induction h generalizing ys with
 |nil=>intro h';cases h';rfl
 |cons r t ih =>
  intro h'
  cases h' with
  |cons r' t'=>rw[r.inj r',ih t']
section
variable{X:Cx}{pins:List (Addr×Obj)}{σ:St}{H:Hp}{s:Shared}{a:Addr}{xs ys:List V}
theorem SqL.of{K:PySem.W.Frag}(h:H a=some (.lst xs)):SqL K H a xs:=.inl (.inl h)
theorem SqT.of{K:PySem.W.Frag}(h:H a=some (.tup xs)):SqT K H a xs:=.inl (.inl h)
theorem Inv.list(I:Inv X pins σ H s)(h:SqL X.K H a xs):∃ its:List Value,Vals xs its/\PlainL s.heap a its.toArray/\xs.length<=sizeLine:=by
 rcases h with h |⟨o,its,n,hk,hc,hd,hs,hz,r⟩
 ·obtain⟨z,its,n,r,e⟩:=h.ok I.hok
  exact⟨its,r,⟨_,n,e,rfl,rfl,rfl⟩,z⟩
 ·refine⟨its.toList,r,⟨o,n,I.kIn a o hk,hc,hd,by simpa using hs⟩,?_⟩
  have e:=r.length
  simp only[Array.length_toList]at e
  lia
theorem Inv.tuple(I:Inv X pins σ H s)(h:SqT X.K H a xs):∃ its:List Value,Vals xs its/\IsTup s.heap a its.toArray/\xs.length<=sizeLine:=by
 rcases h with h |⟨o,its,n,hk,hc,hs,hz,r⟩
 ·obtain⟨z,its,r,p⟩:=h.ok I.hok
  exact⟨its,r,p,z⟩
 ·refine⟨its.toList,r,⟨o,I.kIn a o hk,hc,n,by simpa using hs⟩,?_⟩
  have e:=r.length
  simp only[Array.length_toList]at e
  lia
theorem Inv.list_inj(I:Inv X pins σ H s)(h:SqL X.K H a xs)(h':SqL X.K H a ys):xs=ys:=by
 obtain⟨its,r,⟨o,n,e,_,_,d⟩,_⟩:=I.list h
 obtain⟨its',r',⟨o',n',e',_,_,d'⟩,_⟩:=I.list h'
 rw[e]at e';cases e'
 rw[d]at d'
 injection d' with d1 _
 have:its=its':=by simpa using congrArg Array.toList d1
 subst this
 exact r.inj r'
theorem Inv.tuple_inj(I:Inv X pins σ H s)(h:SqT X.K H a xs)(h':SqT X.K H a ys):xs=ys:=by
 obtain⟨its,r,⟨o,e,_,n,d⟩,_⟩:=I.tuple h
 obtain⟨its',r',⟨o',e',_,n',d'⟩,_⟩:=I.tuple h'
 rw[e]at e';cases e'
 rw[d]at d'
 injection d' with d1 _
 have:its=its':=by simpa using congrArg Array.toList d1
 subst this
 exact r.inj r'
end
noncomputable abbrev Cx.wish(X:Cx)(E:Value->Shared->Prop):Cx:={ X with xe:=E }
noncomputable abbrev Cx.nox(X:Cx):Cx:=X.wish fun _ _=>False
theorem Cx.Ok.wish{X:Cx}(ok:X.Ok)(E:Value->Shared->Prop):(X.wish E).Ok :=
 ⟨ok.mod,ok.kind,ok.glob,ok.blt,ok.above,ok.inj,ok.has,ok.cab,ok.hd,ok.frames,ok.stk,ok.exf,ok.bs,ok.bsz,ok.noex,ok.exfs,ok.funs,ok.frf⟩
theorem Cx.Ok.unwish{X:Cx}{E:Value->Shared->Prop}(ok:(X.wish E).Ok):X.Ok :=
 ⟨ok.mod,ok.kind,ok.glob,ok.blt,ok.above,ok.inj,ok.has,ok.cab,ok.hd,ok.frames,ok.stk,ok.exf,ok.bs,ok.bsz,ok.noex,ok.exfs,ok.funs,ok.frf⟩
section
variable{X:Cx}{pins:List (Addr×Obj)}{σ:St}{H:Hp}{s:Shared}{E:Value->Shared->Prop}
theorem Inv.wish(I:Inv X pins σ H s)(E:Value->Shared->Prop):Inv (X.wish E) pins σ H s:=⟨I.ok.wish E,I.os,I.bare,I.base,I.loc,I.cell,I.free,I.freeC,I.pin,I.hok,I.len⟩
theorem Inv.unwish(I:Inv (X.wish E) pins σ H s):Inv X pins σ H s:=⟨I.ok.unwish,I.os,I.bare,I.base,I.loc,I.cell,I.free,I.freeC,I.pin,I.hok,I.len⟩
theorem SP.unwish{D:Ends}{f:Flow}{s':Shared}(h:SP (X.wish E) pins D f s'):SP X pins D f s':=by
 cases f with
 |next=>obtain⟨σ',H',I,q⟩:=h;exact⟨σ',H',I.unwish,q⟩
 |brk=>obtain⟨σ',H',I,q⟩:=h;exact⟨σ',H',I.unwish,q⟩
 |cont=>obtain⟨σ',H',I,q⟩:=h;exact⟨σ',H',I.unwish,q⟩
 |ret u=>obtain⟨v,σ',H',I,r,q⟩:=h;exact⟨v,σ',H',I.unwish,r,q⟩
theorem PSs.nox{st:List Stmt}{t:TS}(h:PSs X.nox st t):PSs X st t:=fun pins s σ H D I hw =>
 wpAny_mono (h pins s σ H D (I.wish _) hw) (fun _ _ q=>q.unwish) fun _ _ z=>False.elim z
end
section
variable{X:Cx}{st:Stmt}{rest:List Stmt}{t u:TS}{e:Expr}{te:TE}{pos:Pos}
noncomputable def tNext:TS:=fun D σ H=>D.nx σ H
noncomputable def tSeq(t u:TS):TS:=fun D σ H=>t { D with nx:=u D } σ H
theorem pss_nil:PSs X [] tNext:=fun _ _ σ H _ I h=>wpAny_execs_nil ⟨σ,H,I,h⟩
theorem pss_cons(h1:PS X st t)(h2:PSs X rest u):PSs X (st :: rest) (tSeq t u):=by
 intro pins s σ H D I h
 refine wpAny_execs_cons (thn (h1 pins s σ H { D with nx:=u D } I h) fun f s1 q=>?_)
 cases f with
 |next =>
  obtain⟨σ',H',I',q⟩:=q
  exact h2 pins s1 σ' H' D I' q
 |ret v=>exact q
 |brk=>exact q
 |cont=>exact q
theorem pss_one(h1:PS X st t):PSs X [st] t:=by
 intro pins s σ H D I h
 refine wpAny_execs_cons (thn (h1 pins s σ H D I h) fun f s1 q=>?_)
 cases f with
 |next=>exact wpAny_execs_nil q
 |ret v=>exact q
 |brk=>exact q
 |cont=>exact q
noncomputable def tBreak:TS:=fun D σ H=>D.bk σ H
theorem ps_break:PS X (.Break pos) tBreak:=fun _ _ σ H _ I h=>wpAny_Break ⟨σ,H,I,h⟩
theorem Inv.quiet{pins:List (Addr×Obj)}{σ:St}{H:Hp}{s:Shared}(I:Inv X pins σ H s):interactive X.env=false:=by simp[interactive,I.ok.kind]
noncomputable def tDrop(te:TE):TS:=fun D σ H=>te σ H fun _ H1=>D.nx σ H1
theorem ps_expr(he:PE X e te)(hs:swapsWith e none pos.line X.env=pure false:=by rfl):PS X (.Expr e pos) (tDrop te):=by
 intro pins s σ H D I h
 exact wpAny_Expr_any (thn (he pins s σ H _ I h) fun v s1 ⟨x,H1,I1,r1,q1⟩=>⟨σ,H1,I1,q1⟩) I.quiet hs
noncomputable def tRet(te:TE):TS:=fun D σ H=>te σ H D.rt
theorem ps_ret(he:PE X e te):PS X (.Return (some e) pos) (tRet te):=by
 intro pins s σ H D I h
 exact wpAny_Return_some (thn (he pins s σ H _ I h) fun v s1 ⟨x,H1,I1,r1,q1⟩=>⟨x,σ,H1,I1,r1,q1⟩)
noncomputable def tIfS(c:TT)(t u:TS):TS:=fun D σ H=>c σ H fun b H1=>if b=true then t D σ H1 else u D σ H1
theorem ps_if{c:Expr}{a b:List Stmt}{tc:TT}(hc:PT X c tc)(ha:PSs X a t)(hb:PSs X b u):PS X (.If c a b pos) (tIfS tc t u):=by
 intro pins s σ H D I h
 refine wpAny_If (thn (hc pins s σ H _ I h) fun d s1 ⟨H1,I1,q1⟩=>?_)
 cases d with
 |true=>exact ha pins s1 σ H1 D I1 q1
 |false=>exact hb pins s1 σ H1 D I1 q1
noncomputable def tNever:TS:=fun _ _ _=>False
theorem pss_never{sts:List Stmt}:PSs X sts tNever:=fun _ _ _ _ _ _ h=>h.elim
end
noncomputable abbrev TG:=V->St->Hp->(St->Hp->Prop)->Prop
noncomputable abbrev TGs:=List V->St->Hp->(St->Hp->Prop)->Prop
noncomputable def PG(X:Cx)(target:Expr)(t:TG):Prop :=
 ∀ (pins:List (Addr×Obj)) (s:Shared) (σ:St) (H:Hp) (v:V) (u:Value) (Q:St->Hp->Prop),Inv X pins σ H s->RelV v u->t v σ H Q ->
  wpAny (model X.prog X.w) X.A (assign target X.env u) (fun _ s'=>∃ σ' H',Inv X pins σ' H' s'/\Q σ' H') X.xe s
noncomputable def PGs(X:Cx)(ts:List Expr)(t:TGs):Prop :=
 ∀ (pins:List (Addr×Obj)) (s:Shared) (σ:St) (H:Hp) (vs:List V) (us:List Value) (Q:St->Hp->Prop),Inv X pins σ H s->Vals vs us->t vs σ H Q ->
  wpAny (model X.prog X.w) X.A (assignInOrder ((assignEach ts X.env).map (·.2)) us) (fun _ s'=>∃ σ' H',Inv X pins σ' H' s'/\Q σ' H') X.xe s
noncomputable abbrev TSet:=V->V->V->Hp->(Hp->Prop)->Prop
noncomputable def PSet(X:Cx)(t:TSet):Prop :=
 ∀ (pins:List (Addr×Obj)) (s:Shared) (σ:St) (H:Hp) (o i v:V) (ov iv u:Value) (Q:Hp->Prop),Inv X pins σ H s->RelV o ov->RelV i iv->RelV v u->t o i v H Q ->
  wpAny (model X.prog X.w) X.A (setItem ov iv u) (fun _ s'=>∃ H',Inv X pins σ H' s'/\Q H') X.xe s
noncomputable abbrev TIp:=V->V->Hp->VK->Prop
noncomputable def PIp(X:Cx)(op:Operator)(t:TIp):Prop :=
 ∀ (pins:List (Addr×Obj)) (s:Shared) (σ:St) (H:Hp) (x y:V) (v u:Value) (Q:VK),Inv X pins σ H s->RelV x v->RelV y u->t x y H Q ->
  wpAny (model X.prog X.w) X.A (inplaceOp op v u) (EP X pins σ Q) X.xe s
section
variable{X:Cx}{pos:Pos}
noncomputable def gName(i:Nat):TG:=fun v σ H Q=>Q (σ.set i (some v)) H
theorem pg_name{i:Nat}{x:Str}(hN:X.N.Nodup)(hi:X.N[i]?=some x)(hx:Loc X.env.scope x)(hf:X.fn x=true\/X.env.scope.names.lookup x=some .local:=by first | exact .inl rfl | exact .inr rfl | assumption):PG X (.Name x pos) (gName i):=by
 intro pins s σ H v u Q I r h
 exact wpAny_assign_Name (store_ok I hN hi hx r (fun s' I'=>⟨_,H,I',h⟩) hf)
noncomputable def gNil:TGs:=fun vs σ H Q=>vs=[]/\Q σ H
inductive gConsI(t:TG)(u:TGs)(vs:List V)(σ:St)(H:Hp)(Q:St->Hp->Prop):Prop where
 |mk (v:_) (r:_) (h1:vs=v :: r) (h2:t v σ H fun σ' H'=>u r σ' H' Q)
noncomputable def gCons(t:TG)(u:TGs):TGs:=fun vs σ H Q=>gConsI t u vs σ H Q
theorem pgs_nil:PGs X [] gNil:=by
 intro pins s σ H vs us Q I r h
 obtain⟨e,h⟩:=h
 subst e
 cases r
 exact assignInOrder_nil ⟨σ,H,I,h⟩
theorem pgs_cons{e:Expr}{es:List Expr}{t:TG}{u:TGs}(h1:PG X e t)(h2:PGs X es u)
  (hs:(assignEach (e :: es) X.env).map (·.2)=assign e X.env :: (assignEach es X.env).map (·.2):=by rfl):PGs X (e :: es) (gCons t u):=by
 intro pins s σ H vs us Q I r h
 obtain⟨v,vr,e1,h⟩:=h
 subst e1
 cases r with
 |cons r rr =>
  rw[hs]
  refine assignInOrder_cons (thn (h1 pins s σ H _ _ _ I r h) fun _ s1 ⟨σ1,H1,I1,q1⟩=>?_)
  exact h2 pins s1 σ1 H1 _ _ Q I1 rr q1
inductive gTupI(K:PySem.W.Frag)(n:Nat)(t:TGs)(v:V)(σ:St)(H:Hp)(Q:St->Hp->Prop):Prop where
 |mk (a:_) (xs:_) (h1:v = .ref a) (h2:SqT K H a xs) (h3:xs.length=n) (h4:t xs σ H Q)
noncomputable def gTup(K:PySem.W.Frag)(n:Nat)(t:TGs):TG:=fun v σ H Q=>gTupI K n t v σ H Q
theorem pg_tup{es:List Expr}{k:Nat}{t:TGs}{n:Nat}(hc:X.calm=true)(h:PGs X es t)
  (hn:(assignEach es X.env).length=n:=by rfl) (hst:(assignEach es X.env).findIdx? (·.1)=none:=by rfl):PG X (.Tuple es k pos) (gTup X.K n t):=by
 intro pins s σ H v u Q I r hw
 obtain⟨a,xs,e1,hq,hl,hw⟩:=hw
 subst e1
 cases r
 obtain⟨its,rv,ht,hz⟩:=I.tuple hq
 refine assign_Tuple_tuple (I.ok.hd hc) ht (by simp[hn,<- hl,rv.length]) hst fun h' hx=>?_
 have I1:Inv X pins σ H { s with heap:=h' }:=I.kept (t':=s.toks) fun b o e=>hx b o (Nat.ne_of_lt (Heap.lt_size e)) e
 exact h pins _ σ H xs _ Q I1 (by simpa using rv) hw
noncomputable def gSub(to ti:TE)(t:TSet):TG:=fun v σ H Q=>to σ H fun o H1=>ti σ H1 fun i H2=>t o i v H2 fun H3=>Q σ H3
theorem pg_sub{o i:Expr}{to ti:TE}{t:TSet}(ho:PE X o to)(hi:PE X i ti)(hs:PSet X t)
  (ha:∀ v,assign (.Subscript o i pos) X.env v=(do
   let ov <- holding [v] (eval o X.env)
   let iv <- holding [v,ov] (eval i X.env)
   standAt pos
   holding [v,ov,iv] (setItem ov iv v)
   release [v,ov,iv] []):=by intro _;rfl):PG X (.Subscript o i pos) (gSub to ti t):=by
 intro pins s σ H v u Q I r h
 rw[ha]
 refine wpAny_bind (wpAny_holding (thn (ho pins s σ H _ I h) fun ov s1 ⟨x,H1,I1,r1,q1⟩=>?_))
 refine wpAny_bind (wpAny_holding (thn (hi pins s1 σ H1 _ I1 q1) fun iv s2 ⟨y,H2,I2,r2,q2⟩=>?_))
 refine wpAny_bind (wpAny_standAt (wpAny_bind (wpAny_holding (thn (hs pins s2 σ H2 x y v ov iv u _ I2 r1 r2 r q2) fun _ s3 ⟨H3,I3,q3⟩=>?_))))
 exact wpAny_release ⟨σ,H3,I3,q3⟩
noncomputable def tAsg(te:TE)(g:TG):TS:=fun D σ H=>te σ H fun x H1=>g x σ H1 D.nx
theorem ps_asg{tg e:Expr}{te:TE}{g:TG}(he:PE X e te)(hg:PG X tg g)(hs:swapsWithSole [tg] e pos.line X.env=pure false:=by rfl)(hw:swappedStores [tg] e X.env=pure none:=by rfl)
  (h1:(assignEach [tg] X.env).map (·.2)=[assign tg X.env]:=by rfl):PS X (.Assign [tg] e pos) (tAsg te g):=by
 intro pins s σ H D I h
 refine wpAny_Assign_stores (thn (he pins s σ H _ I h) fun v s1 ⟨x,H1,I1,r1,q1⟩=>?_) hs hw
 rw[h1]
 exact thn (hg pins s1 σ H1 x v _ I1 r1 q1) fun _ s2 q=>q
theorem ps_set{i:Nat}{x:Str}{e:Expr}{te:TE}{pos':Pos}(hN:X.N.Nodup)(hi:X.N[i]?=some x)(hx:Loc X.env.scope x)(he:PE X e te)(hs:swapsWith e (some (.Name x pos')) pos.line X.env=pure false:=by rfl)(hf:X.fn x=true\/X.env.scope.names.lookup x=some .local:=by first | exact .inl rfl | exact .inr rfl | assumption) :
  PS X (.Assign [.Name x pos'] e pos) (tAsg te (gName i)):=by
 intro pins s σ H D I h
 refine wpAny_Assign_Name (thn (he pins s σ H _ I h) fun v s1 ⟨y,H1,I1,r1,q1⟩=>?_) hs
 exact store_ok I1 hN hi hx r1 (fun s2 I2=>⟨_,H1,I2,q1⟩) hf
noncomputable def tPar(i j:Nat)(ta:TA):TS:=fun D σ H=>ta σ H fun vs H1=>∃ v w,vs=[v,w]/\D.nx ((σ.set i (some v)).set j (some w)) H1
theorem ps_par{i j:Nat}{x y:Str}{a b:Expr}{ta:TA}{px py pt:Pos}{kt k2 pt2}(hc:X.calm=true)(hN:X.N.Nodup)(hi:X.N[i]?=some x)(hj:X.N[j]?=some y)(hij:i≠j)
  (hx:X.env.scope.names.lookup x=some .local) (hy:X.env.scope.names.lookup y=some .local) (ha:PA X [a,b] ta)
  (hw:swappedStores [.Tuple [.Name x px,.Name y py] kt pt] (.Tuple [a,b] k2 pt2) X.env=pure (some [x,y]))
  (hs:swapsWithSole [.Tuple [.Name x px,.Name y py] kt pt] (.Tuple [a,b] k2 pt2) pos.line X.env=pure false:=by rfl) :
  PS X (.Assign [.Tuple [.Name x px,.Name y py] kt pt] (.Tuple [a,b] k2 pt2) pos) (tPar i j ta):=by
 intro pins s σ H D I h
 rw[exec_Assign_arm]
 refine wpAny_bind (wpAny_standAt ?_)
 rw[hs]
 refine wpAny_bind (wpAny_pure ?_)
 rw[if_neg (by decide)]
 refine wpAny_bind (Tuple_ (thn (ha _ pins s σ H _ I h) fun us s1 ⟨vs,H1,I1,r1,q1⟩=>?_))
 obtain⟨v,w,e1,q1⟩:=q1
 subst e1
 obtain⟨u1,u2,rfl,rv,rw'⟩:∃ u1 u2,us=[u1,u2]/\RelV v u1/\RelV w u2:=by
  cases r1 with
  |cons p q =>
   cases q with
   |cons p' q' =>
    cases q'
    exact⟨_,_,rfl,p,p'⟩
 refine wpAny_newObj_type ?_ (by show 2<=sizeLine;decide)
 have I2:Inv X pins σ H1 { s1 with heap:=s1.heap.push { cls:=.type "tuple",data:=.seq [u1,u2].toArray } }:=I1.kept (t':=s1.toks) fun b o e=>Heap.get?_push_of_some _ e
 rw[hw]
 refine wpAny_bind (wpAny_pure ?_)
 show wpAny (model X.prog X.w) X.A (do rule "assign.swapped-stores";let items <- unpackItems (.ref s1.heap.objs.size) 2 none;assignInOrder [fun v=>bindName X.env y v,fun v=>bindName X.env x v] items.reverse;pure Flow.next) _ _ _
 refine wpAny_bind (wpAny_rule (wpAny_bind (unpackItems_tuple (items:=#[u1,u2]) (I.ok.hd hc) (IsTup.new s1.heap _) fun h' hx'=>?_)))
 have I3:=I2.kept (h':=h') (t':=s1.toks) fun b o e=>hx' b o (Nat.ne_of_lt (Heap.lt_size e)) e
 show wpAny _ _ (assignInOrder [fun v=>bindName X.env y v,fun v=>bindName X.env x v] [u2,u1] >>= fun _=>pure Flow.next) _ _ _
 refine wpAny_bind (assignInOrder_cons (wpAny_bindName (store_ok I3 hN hj (.inl hy) rw' (fun s2 I4=>?_) (.inr hy))))
 refine assignInOrder_cons (wpAny_bindName (store_ok I4 hN hi (.inl hx) rv (fun s3 I5=>assignInOrder_nil (wpAny_pure ?_)) (.inr hx)))
 rw[List.set_comm _ _ (Ne.symm hij)]at I5
 exact⟨_,H1,I5,q1⟩
noncomputable def tAug(i:Nat)(te:TE)(ti:TIp):TS:=fun D σ H=>∃ x,σ[i]?=some (some x)/\te σ H fun y H1=>ti x y H1 fun z H2=>D.nx (σ.set i (some z)) H2
theorem ps_aug{i:Nat}{x:Str}{e:Expr}{te:TE}{op:Operator}{ti:TIp}{pos':Pos}(hN:X.N.Nodup)(hi:X.N[i]?=some x)(hx:Loc X.env.scope x)(he:PE X e te)(ho:PIp X op ti)(hf:X.fn x=true\/X.env.scope.names.lookup x=some .local:=by first | exact .inl rfl | exact .inr rfl | assumption) :
  PS X (.AugAssign (.Name x pos') op e pos) (tAug i te ti):=by
 intro pins s σ H D I h
 obtain⟨v,e1,h⟩:=h
 obtain⟨m,hn,hl⟩:=I.loc
 have vis:Vis X.env.scope x:=by rcases hx with k | k;exact .inl k;exact .inr (.inl k)
 obtain⟨u,r,l⟩:=hl i x v hi e1 vis
 refine wpAny_AugAssign_Name ?_
 have go:wpAny (model X.prog X.w) X.A (eval e X.env) (fun w s₂=>wpAny (model X.prog X.w) X.A (inplaceOp op u w) (fun r s₃=>wpAny (model X.prog X.w) X.A (storeName X.env x r) (fun _=>SP X pins D .next) X.xe s₃) X.xe s₂) X.xe s:=by
  refine thn (he pins s σ H _ I h) fun w s1 ⟨y,H1,I1,r1,q1⟩=>?_
  refine thn (ho pins s1 σ H1 v y u w _ I1 r r1 q1) fun z s2 ⟨zv,H2,I2,r2,q2⟩=>?_
  exact store_ok I2 hN hi hx r2 (fun s3 I3=>⟨_,H2,I3,q2⟩) hf
 rcases l with⟨hk,hm⟩ |⟨hk,c,hc,hcell⟩
 ·exact wpAny_loadName_local I.ok.kind hk hn hm go
 ·rcases hk with hk | hk
  ·exact wpAny_loadName_cell I.ok.kind hk hc hcell go
  ·rcases hx with k | k
   ·have:X.env.scope.names.lookup x=some .free:=hk
    rw[k]at this;cases this
   ·have:X.env.scope.names.lookup x=some .free:=hk
    rw[k]at this;cases this
noncomputable def tAugS(to ti te:TE)(tget:V->V->Hp->VK->Prop)(tip:TIp)(tset:TSet):TS:=fun D σ H=>to σ H fun o H1=>ti σ H1 fun i H2=>tget o i H2 fun x H3=>te σ H3 fun y H4=>tip x y H4 fun z H5=>tset o i z H5 fun H6=>D.nx σ H6
noncomputable def PGet(X:Cx)(t:V->V->Hp->VK->Prop):Prop :=
 ∀ (pins:List (Addr×Obj)) (s:Shared) (σ:St) (H:Hp) (o i:V) (ov iv:Value) (Q:VK),Inv X pins σ H s->RelV o ov->RelV i iv->t o i H Q ->
  wpAny (model X.prog X.w) X.A (getItem ov iv) (EP X pins σ Q) X.xe s
theorem ps_augS{o i e:Expr}{to ti te:TE}{tget:V->V->Hp->VK->Prop}{tip:TIp}{tset:TSet}{op:Operator}{tpos:Pos}(ho:PE X o to)(hi:PE X i ti)(hg:PGet X tget)(he:PE X e te)(hp:PIp X op tip)(hs:PSet X tset)
  (ha:∀ ov iv new,augStore i ov iv new=(do holding [new,ov,iv] (setItem ov iv new);release [new,ov,iv] [];pure .next):=by intros;rfl):PS X (.AugAssign (.Subscript o i tpos) op e pos) (tAugS to ti te tget tip tset):=by
 intro pins s σ H D I h
 refine wpAny_AugAssign_SubscriptAny (thn (ho pins s σ H _ I h) fun ov s1 ⟨x1,H1,I1,r1,q1⟩=>?_) ha
 refine thn (hi pins s1 σ H1 _ I1 q1) fun iv s2 ⟨x2,H2,I2,r2,q2⟩=>?_
 refine thn (hg pins s2 σ H2 x1 x2 ov iv _ I2 r1 r2 q2) fun old s3 ⟨x3,H3,I3,r3,q3⟩=>?_
 refine thn (he pins s3 σ H3 _ I3 q3) fun v s4 ⟨x4,H4,I4,r4,q4⟩=>?_
 refine thn (hp pins s4 σ H4 x3 x4 old v _ I4 r3 r4 q4) fun new s5 ⟨x5,H5,I5,r5,q5⟩=>?_
 exact thn (hs pins s5 σ H5 x1 x2 x5 ov iv new _ I5 r1 r2 r5 q5) fun _ s6 ⟨H6,I6,q6⟩=>⟨σ,H6,I6,q6⟩
noncomputable def ipI(f:Int->Int->Int):TIp:=fun x y H Q=>∃ i j,x = .int i/\y = .int j/\Q (.int (f i j)) H
theorem ip_add:PIp X .Add (ipI fun i j=>i+j):=by
 intro pins s σ H x y v u Q I r1 r2 h
 obtain⟨i,j,e1,e2,q⟩:=h
 subst e1;subst e2
 obtain⟨t,rfl⟩:=r1
 obtain⟨t',rfl⟩:=r2
 exact iadd_int ⟨.int _,H,I.tok _,⟨_,rfl⟩,q⟩
theorem ip_sub:PIp X .Sub (ipI fun i j=>i-j):=by
 intro pins s σ H x y v u Q I r1 r2 h
 obtain⟨i,j,e1,e2,q⟩:=h
 subst e1;subst e2
 obtain⟨t,rfl⟩:=r1
 obtain⟨t',rfl⟩:=r2
 exact isub_int ⟨.int _,H,I.tok _,⟨_,rfl⟩,q⟩
end
section
variable{X:Cx}{pos:Pos}
noncomputable def tWhile(c:TT)(tb:TS):TS:=fun D σ H=>∃ W:Nat->St->Hp->Prop,(∃ m,W m σ H)/\∀ m σ H,W m σ H ->
 c σ H fun b H1=>if b=true then ∃ N:St->Hp->Prop,(∀ σ' H',N σ' H'->∃ m',m'<m/\W m' σ' H')/\tb { D with nx:=N,ct:=N,bk:=D.nx } σ H1 else D.nx σ H1
theorem ps_while{c:Expr}{body:List Stmt}{tc:TT}{tb:TS}(hp:PassesOwn (model X.prog X.w) X.A X.env X.xe)(hc:PT X c tc)(hb:PSs X body tb):PS X (.While c body [] pos) (tWhile tc tb):=by
 intro pins s σ H D I h
 obtain⟨W,⟨m0,w0⟩,turn⟩:=h
 refine wpAny_While (codeAny_whileLoop (fun n s'=>∃ σ' H',Inv X pins σ' H' s'/\W n σ' H') ?_ m0 ⟨σ,H,I,w0⟩)
 rintro n s1 ⟨σ1,H1,I1,w1⟩
 refine wpAny_passesOwn hp (thn (hc pins s1 σ1 H1 _ I1 (turn n σ1 H1 w1)) fun b s2 ⟨H2,I2,q2⟩=>?_)
 cases b with
 |true =>
  obtain⟨N,hN,q2⟩:=q2
  rw[if_pos rfl]
  refine wpAny_passesOwn hp (thn (hb pins s2 σ1 H2 _ I2 q2) fun f s3 q3=>?_)
  cases f with
  |next =>
   obtain⟨σ3,H3,I3,n3⟩:=q3
   obtain⟨m',hm,w3⟩:=hN σ3 H3 n3
   exact⟨m',hm,σ3,H3,I3,w3⟩
  |cont =>
   obtain⟨σ3,H3,I3,n3⟩:=q3
   obtain⟨m',hm,w3⟩:=hN σ3 H3 n3
   exact⟨m',hm,σ3,H3,I3,w3⟩
  |brk=>exact q3
  |ret v=>exact q3
 |false =>
  rw[if_neg Bool.false_ne_true]
  exact wpAny_execs_nil ⟨σ1,H2,I2,q2⟩
end
structure It where
 go:Nat->Hp->Prop
 yld:Nat->Hp->V->Hp->Prop
 stop:Nat->Hp->Prop
noncomputable def FpOk(X:Cx)(pins:List (Addr×Obj))(H:Hp)(b:Addr):Prop :=
 H b=none/\b≠X.env.locals/\b∉X.fs/\(b∈X.ex\/X.s₀.heap.objs.size<=b)/\(∀ x c,X.env.cells.lookup x=some c->c≠b)/\∀ p∈X.pn++pins,p.1≠b
theorem Inv.fpOk{X:Cx}{pins:List (Addr×Obj)}{σ:St}{H H':Hp}{s:Shared}{b:Addr}(I:Inv X pins σ H s)(hb:s.heap.objs.size<=b)(hn:H' b=none):FpOk X pins H' b:=by
 refine⟨hn,Nat.ne_of_gt (Nat.lt_of_lt_of_le I.lt hb),I.nofs hb,.inr (Nat.le_trans I.sz hb),fun x c e z=>?_,fun p hp z=>?_⟩
 ·obtain⟨v,q⟩:=I.cell x c e
  exact absurd (Nat.lt_of_lt_of_le q.lt (by rw[z];exact hb)) (Nat.lt_irrefl _)
 ·exact absurd (Nat.lt_of_lt_of_le (Heap.lt_size (I.pin p hp).1) (by rw[z];exact hb)) (Nat.lt_irrefl _)
structure Turn(P:Program)(w:World)(K:PySem.W.Frag)(tg:Expr)(J:It)(fp:List Addr)(it:Addr)(tn:Nat->Heap->Prop):Prop where
 mem:it∈fp
 obj:∀ i h,tn i h->∀ b∈fp,∃ o,h.get? b=some o/\∀ v,o.data≠.cell v
 keep:∀ i h h',tn i h->(∀ b∈fp,∀ o,h.get? b=some o->h'.get? b=some o)->tn i h'
 item:∀ (X:Cx),X.prog=P->X.w=w->X.K=K->X.calm=true->∀ (i:Nat) (pins:List (Addr×Obj)) (s:Shared) (σ:St) (H:Hp) (E:Value->Shared->Prop),Inv X pins σ H s->(∀ b∈fp,FpOk X pins H b)->tn i s.heap->J.go i H ->
  wpAny (model P w) X.A (pyNext (.ref it)) (fun r s1=>∃ u,r=some u /\
   wpAny (model P w) X.A (letOwnedTupleGo tg (.ref it) u) (fun _ s2=>∃ x H',Inv X pins σ H' s2/\RelV x u/\J.yld i H x H'/\tn (i+1) s2.heap/\∀ b∈fp,H' b=none) E s1) E s
 done:∀ (X:Cx),X.prog=P->X.w=w->X.K=K->X.calm=true->∀ (i:Nat) (pins:List (Addr×Obj)) (s:Shared) (σ:St) (H:Hp) (E:Value->Shared->Prop),Inv X pins σ H s->(∀ b∈fp,FpOk X pins H b)->tn i s.heap->J.stop i H ->
  wpAny (model P w) X.A (pyNext (.ref it)) (fun r s1=>r=none/\Inv X pins σ H s1) E s
 self:∀ (A:Around) (i:Nat) (s:Shared) (Q:Value->Shared->Prop) (E:Value->Shared->Prop),tn i s.heap->Q (.ref it) s->wpAny (model P w) A (pyIter (.ref it)) Q E s
noncomputable abbrev TI:=St->Hp->(It->Hp->Prop)->Prop
noncomputable def PIE(X:Cx)(pins:List (Addr×Obj))(σ:St)(tg:Expr)(R:It->Hp->Prop)(itv:Value)(s2:Shared):Prop :=
 ∃ (it:Addr) (fp:List Addr) (tn:Nat->Heap->Prop) (J:It) (H':Hp),itv = .ref it/\Inv X pins σ H' s2/\Turn X.prog X.w X.K tg J fp it tn/\tn 0 s2.heap/\(∀ b∈fp,FpOk X pins H' b)/\R J H'
noncomputable def PI(X:Cx)(tg iter:Expr)(wi:TI):Prop :=
 ∀ (pins:List (Addr×Obj)) (s:Shared) (σ:St) (H:Hp) (R:It->Hp->Prop),Inv X pins σ H s->wi σ H R ->
  wpAny (model X.prog X.w) X.A (eval iter X.env) (fun v s1=>wpAny (model X.prog X.w) X.A (pyIter v) (PIE X pins σ tg R) X.xe s1) X.xe s
theorem go_of {M : Model} {A : Around} {E : Value → Shared → Prop} {s : Shared} {tg : Expr} {it : Addr} {u : Value} {o : Obj} {n : String} {vs : Array Value} {Q : Unit → Shared → Prop} (ho : s.heap.get? it = some o) (hc : o.cls = .type n) (hd : o.data = .fields vs)
    (hn : ["enumerate", "zip", "dict_itemiterator", "dict_reverseitemiterator", "odict_iterator", "itertools.zip_longest", "itertools.pairwise"].contains n = false) (hQ : Q () s) : wpAny M A (letOwnedTupleGo tg (.ref it) u) Q E s := by
  unfold letOwnedTupleGo
  cases tg <;> first
    | exact wpAny_pure hQ
    | (cases u <;> first
        | exact wpAny_pure hQ
        | (refine wpAny_bind (wpAny_load ho ?_)
           rw [hc, hd]
           show wpAny M A (if (["enumerate", "zip", "dict_itemiterator", "dict_reverseitemiterator", "odict_iterator", "itertools.zip_longest", "itertools.pairwise"].contains n && vs[0]? == some (rawInt _)) = true then _ else _) Q E s
           rw [if_neg (by intro h; rw [hn, Bool.false_and] at h; cases h)]
           exact wpAny_pure hQ))
noncomputable def Itl(K:PySem.W.Frag)(a:Addr):It :=
 ⟨fun i H=>∃ xs x,SqL K H a xs/\xs[i]?=some x,fun i H x H'=>H'=H/\∀ xs,SqL K H a xs->xs[i]?=some x,fun i H=>∃ xs,SqL K H a xs/\xs.length<=i⟩
noncomputable def Itt(K:PySem.W.Frag)(a:Addr):It :=
 ⟨fun i H=>∃ xs x,SqT K H a xs/\xs[i]?=some x,fun i H x H'=>H'=H/\∀ xs,SqT K H a xs->xs[i]?=some x,fun i H=>∃ xs,SqT K H a xs/\xs.length<=i⟩
noncomputable def Itr(lo:Int)(n:Nat):It:=⟨fun i _=>i<n,fun i H x H'=>H'=H/\x = .int (lo+i),fun i _=>n<=i⟩
theorem turn_list{P:Program}{w:World}{K:PySem.W.Frag}{tg:Expr}(a it:Addr):Turn P w K tg (Itl K a) [it] it (fun i h=>h.IsListIter it a i)where
 mem:=by simp
 obj:=fun i h st b hb=>by
  have e:b=it:=by simpa using hb
  subst e
  obtain⟨o,e,c,d⟩:=st
  exact⟨o,e,fun v z=>by rw[d]at z;cases z⟩
 keep:=fun i h h' st k=>st.at fun o e=>k it (by simp) o e
 item:=by
  intro X hP hw hK hc i pins s σ H E I hf st hg
  subst hP hw hK
  obtain⟨xs,x,hq,hx⟩:=hg
  obtain⟨its,rv,p,hz⟩:=I.list hq
  obtain⟨u,hu,ru⟩:=rv.get hx
  obtain⟨f0,f1,f2,f3,f4,f5⟩:=hf it (by simp)
  refine wpAny_pyNext_list_item st p.isList (x:=u) (by simpa using hu) fun h' st' sb=>?_
  have I1:Inv X pins σ H { s with heap:=h' }:=I.turned (t':=s.toks) (fun b o hb e=>(sb.2 b hb).trans e) f0 f1 f3 f4 f5
  obtain⟨o,e,c,d⟩:=id st'
  exact⟨u,rfl,go_of (s:={ s with heap:=h' }) e c d (by decide) ⟨x,H,I1,ru,⟨rfl,fun ys hy=>by rw[I.list_inj hy hq];exact hx⟩,st',fun b hb=>(hf b hb).1⟩⟩
 done:=by
  intro X hP hw hK hc i pins s σ H E I hf st hg
  subst hP hw hK
  obtain⟨xs,hq,hx⟩:=hg
  obtain⟨its,rv,p,hz⟩:=I.list hq
  obtain⟨f0,f1,f2,f3,f4,f5⟩:=hf it (by simp)
  have hl:=rv.length
  exact wpAny_pyNext_list_end (I.ok.hd hc) st p.isList (by simp;lia) fun h' eb=>⟨rfl,I.turned (t':=s.toks) (fun b o hb e=>eb b o hb e) f0 f1 f3 f4 f5⟩
 self:=fun _ _ _ _ _ st h=>wpAny_pyIter_listiter st h
theorem turn_tuple{P:Program}{w:World}{K:PySem.W.Frag}{tg:Expr}(a it:Addr):Turn P w K tg (Itt K a) [it] it (fun i h=>h.IsTupleIter it a i)where
 mem:=by simp
 obj:=fun i h st b hb=>by
  have e:b=it:=by simpa using hb
  subst e
  obtain⟨o,e,c,d⟩:=st
  exact⟨o,e,fun v z=>by rw[d]at z;cases z⟩
 keep:=fun i h h' st k=>st.at fun o e=>k it (by simp) o e
 item:=by
  intro X hP hw hK hc i pins s σ H E I hf st hg
  subst hP hw hK
  obtain⟨xs,x,hq,hx⟩:=hg
  obtain⟨its,rv,p,hz⟩:=I.tuple hq
  obtain⟨u,hu,ru⟩:=rv.get hx
  obtain⟨f0,f1,f2,f3,f4,f5⟩:=hf it (by simp)
  refine wpAny_pyNext_tuple_item st (show s.heap.IsTuple a its.toArray from p) (x:=u) (by simpa using hu) fun h' st' sb=>?_
  have I1:Inv X pins σ H { s with heap:=h' }:=I.turned (t':=s.toks) (fun b o hb e=>(sb.2 b hb).trans e) f0 f1 f3 f4 f5
  obtain⟨o,e,c,d⟩:=id st'
  exact⟨u,rfl,go_of (s:={ s with heap:=h' }) e c d (by decide) ⟨x,H,I1,ru,⟨rfl,fun ys hy=>by rw[I.tuple_inj hy hq];exact hx⟩,st',fun b hb=>(hf b hb).1⟩⟩
 done:=by
  intro X hP hw hK hc i pins s σ H E I hf st hg
  subst hP hw hK
  obtain⟨xs,hq,hx⟩:=hg
  obtain⟨its,rv,p,hz⟩:=I.tuple hq
  obtain⟨f0,f1,f2,f3,f4,f5⟩:=hf it (by simp)
  have hl:=rv.length
  exact wpAny_pyNext_tuple_end (I.ok.hd hc) st (show s.heap.IsTuple a its.toArray from p) (by simp;lia) fun h' eb=>⟨rfl,I.turned (t':=s.toks) (fun b o hb e=>eb b o hb e) f0 f1 f3 f4 f5⟩
 self:=fun _ _ _ _ _ st h=>wpAny_pyIter_tupleiter st h
theorem turn_range{P:Program}{w:World}{K:PySem.W.Frag}{tg:Expr}(it:Addr)(lo:Int)(n:Nat):Turn P w K tg (Itr lo n) [it] it (fun i h=>IsRangeIter h it (lo+(i:Nat) * 1) ((n:Int)-(i:Nat)) 1)where
 mem:=by simp
 obj:=fun i h st b hb=>by
  have e:b=it:=by simpa using hb
  subst e
  exact⟨_,st,fun v z=>by
   have z':Data.fields _=Data.cell v:=z
   cases z'⟩
 keep:=fun i h h' st k=>k it (by simp) _ st
 item:=by
  intro X hP hw hK hc i pins s σ H E I hf st hg
  subst hP hw hK
  obtain⟨f0,f1,f2,f3,f4,f5⟩:=hf it (by simp)
  have W:=Walks.range (prog:=X.prog) (w:=X.w) (I.ok.hd hc) it lo 1 n
  refine W.item i s _ _ hg st fun v h' tk hv st' kk=>?_
  obtain⟨t,rfl⟩:=hv
  have I1:Inv X pins σ H { s with heap:=h',toks:=tk }:=I.turned (fun b o hb e=>kk b o (by simpa using hb) e) f0 f1 f3 f4 f5
  refine⟨_,rfl,go_of (s:={ s with heap:=h',toks:=tk }) (n:="range_iterator") st' rfl rfl (by decide) ⟨.int (lo+i),H,I1,⟨t,?_⟩,⟨rfl,rfl⟩,st',fun b hb=>(hf b hb).1⟩⟩
  rw[Int.mul_one]
 done:=by
  intro X hP hw hK hc i pins s σ H E I hf st hg
  subst hP hw hK
  obtain⟨f0,f1,f2,f3,f4,f5⟩:=hf it (by simp)
  exact wpAny_pyNext_range_end (I.ok.hd hc) st (by have:n<=i:=hg;lia) fun h' eb=>⟨rfl,I.turned (t':=s.toks) (fun b o hb e=>eb b o hb e) f0 f1 f3 f4 f5⟩
 self:=fun _ _ _ _ _ st h=>wpAny_pyIter_rangeiter st h
open PySem PySem.Spec PyProof.Rows
section
variable{X:Cx}{tg:Expr}
inductive ExS(x:V)(S Q:Addr->Prop):Prop where
 |mk (a:Addr) (e:x = .ref a) (s:S a) (h:Q a)
noncomputable def iList(K:PySem.W.Frag)(tl:TE):TI:=fun σ H R=>tl σ H fun x H1=>ExS x (fun a=>∃ xs,SqL K H1 a xs) fun a=>R (Itl K a) H1
noncomputable def iTup(K:PySem.W.Frag)(tl:TE):TI:=fun σ H R=>tl σ H fun x H1=>ExS x (fun a=>∃ xs,SqT K H1 a xs) fun a=>R (Itt K a) H1
theorem pi_list{l:Expr}{tl:TE}(hl:PE X l tl):PI X tg l (iList X.K tl):=by
 intro pins s σ H R I h
 refine thn (hl pins s σ H _ I h) fun v s1 ⟨x,H1,I1,r1,q1⟩=>?_
 obtain⟨a,e,⟨xs,hq⟩,q⟩:=q1
 subst e
 cases r1
 obtain⟨its,rv,p,hz⟩:=I1.list hq
 refine wpAny_pyIter_list p.isList ?_
 refine⟨s1.heap.objs.size,[s1.heap.objs.size],_,_,H1,rfl,I1.kept (t':=s1.toks) fun b o e=>Heap.get?_push_of_some _ e,turn_list a _,⟨_,Heap.get?_push_size _ rfl,rfl,rfl⟩,fun b hb=>?_,q⟩
 have e:b=s1.heap.objs.size:=by simpa using hb
 subst e
 exact I1.fpOk (Nat.le_refl _) (I1.hok.fresh (Nat.le_refl _))
theorem pi_tup{l:Expr}{tl:TE}(hl:PE X l tl):PI X tg l (iTup X.K tl):=by
 intro pins s σ H R I h
 refine thn (hl pins s σ H _ I h) fun v s1 ⟨x,H1,I1,r1,q1⟩=>?_
 obtain⟨a,e,⟨xs,hq⟩,q⟩:=q1
 subst e
 cases r1
 obtain⟨its,rv,p,hz⟩:=I1.tuple hq
 refine wpAny_pyIter_tuple (show s1.heap.IsTuple a its.toArray from p) ?_
 refine⟨s1.heap.objs.size,[s1.heap.objs.size],_,_,H1,rfl,I1.kept (t':=s1.toks) fun b o e=>Heap.get?_push_of_some _ e,turn_tuple a _,⟨_,Heap.get?_push_size _ rfl,rfl,rfl⟩,fun b hb=>?_,q⟩
 have e:b=s1.heap.objs.size:=by simpa using hb
 subst e
 exact I1.fpOk (Nat.le_refl _) (I1.hok.fresh (Nat.le_refl _))
theorem range_it{pins:List (Addr×Obj)}{σ:St}{H:Hp}{s:Shared}{R:It->Hp->Prop}{E:Value->Shared->Prop}{lo hi:Int}{t u v:Tok}{tk:Nat}(I:Inv X pins σ H s)(h1:-(2 ^ 62)<=lo)(h2:lo<2 ^ 62)(h3:-(2 ^ 62)<=hi)(h4:hi<2 ^ 62)
  (q:R (Itr lo (hi-lo).toNat) H):wpAny (model X.prog X.w) X.A (pyIter (.ref s.heap.objs.size)) (PIE X pins σ tg R) E { s with heap:=s.heap.push { cls:=.type "range",data:=.fields #[.int lo t,.int hi u,.int 1 v] },toks:=tk }:=by
 refine wpAny_pyIter_range (IsRange.new ..) (small_one h1 h2 h3 h4) ?_
 have I1:Inv X pins σ H { s with heap:=s.heap.push { cls:=.type "range",data:=.fields #[.int lo t,.int hi u,.int 1 v] },toks:=tk }:=I.kept fun b o e=>Heap.get?_push_of_some _ e
 refine⟨(s.heap.push { cls:=.type "range",data:=.fields #[.int lo t,.int hi u,.int 1 v] }).objs.size,[(s.heap.push { cls:=.type "range",data:=.fields #[.int lo t,.int hi u,.int 1 v] }).objs.size],_,_,H,rfl,
  I1.kept (t':=tk) fun b o e=>Heap.get?_push_of_some _ e,turn_range _ lo (hi-lo).toNat,?_,fun b hb=>?_,q⟩
 ·have e1:lo+((0:Nat):Int) * 1=lo:=by simp
  have e2:(((hi-lo).toNat:Nat):Int)-((0:Nat):Int)=Builtin.Range.rangeSize lo hi 1:=by rw[rangeSize_one];split <;> lia
  show IsRangeIter _ _ (lo+((0:Nat):Int) * 1) ((((hi-lo).toNat:Nat):Int)-((0:Nat):Int)) 1
  rw[e1,e2]
  exact Heap.get?_push_size _ rfl
 ·have e:b=(s.heap.push { cls:=.type "range",data:=.fields #[.int lo t,.int hi u,.int 1 v] }).objs.size:=by simpa using hb
  subst e
  exact I1.fpOk (Nat.le_refl _) (I1.hok.fresh (Nat.le_refl _))
noncomputable def iRng1(ta:TA):TI:=fun σ H R=>ta σ H fun vs H1=>∃ j:Int,vs=[.int j]/\-(2 ^ 62)<=j/\j<2 ^ 62/\R (Itr 0 j.toNat) H1
noncomputable def iRng2(ta:TA):TI:=fun σ H R=>ta σ H fun vs H1=>∃ i j:Int,vs=[.int i,.int j]/\(-(2 ^ 62)<=i/\i<2 ^ 62/\-(2 ^ 62)<=j/\j<2 ^ 62)/\R (Itr i (j-i).toNat) H1
theorem pi_range1{a:Expr}{ta:TA}{p pos:Pos}(hg:Gl X "range")(hm:X.mg "range" = none)(ha:PA X [a] ta)(hs:starEach [a] X.env=[(false,eval a X.env)]:=by rfl):PI X tg (.Call (.Name "range" p) [a] [] pos) (iRng1 ta):=by
 intro pins s σ H R I h
 refine Call_ (ld_blt I hg hm boot_range (PyProof.Rows.callWith_type1 (thn (ha pos pins s σ H _ I h) fun us s1 ⟨vs,H1,I1,r1,q1⟩=>?_) hs rfl))
 obtain⟨j,e,q1,q2,q⟩:=q1
 subst e
 cases r1 with
 |cons r rr =>
  cases rr
  obtain⟨t,rfl⟩:=r
  exact call_range_1 (range_it I1 (by lia) (by lia) q1 q2 (by simpa using q))
theorem pi_range2{a b:Expr}{ta:TA}{p pos:Pos}(hg:Gl X "range")(hm:X.mg "range" = none)(ha:PA X [a,b] ta)(hs:starEach [a,b] X.env=[(false,eval a X.env),(false,eval b X.env)]:=by rfl)(hs2:starEach [b] X.env=[(false,eval b X.env)]:=by rfl) :
  PI X tg (.Call (.Name "range" p) [a,b] [] pos) (iRng2 ta):=by
 intro pins s σ H R I h
 refine Call_ (ld_blt I hg hm boot_range (PyProof.Rows.callWith_type1 (thn (ha pos pins s σ H _ I h) fun us s1 ⟨vs,H1,I1,r1,q1⟩=>?_) (by rw[hs,hs2]) (by rw[hs2];rfl)))
 obtain⟨i,j,e,⟨q1,q2,q3,q4⟩,q⟩:=q1
 subst e
 cases r1 with
 |cons r rr =>
  cases rr with
  |cons r' rr =>
   cases rr
   obtain⟨t,rfl⟩:=r
   obtain⟨t',rfl⟩:=r'
   exact call_range_2 (range_it I1 q1 q2 q3 q4 q)
noncomputable def tFor(wi:TI)(g:TG)(tb:TS):TS:=fun D σ H=>wi σ H fun J H1=>∃ W:Nat->Nat->St->Hp->Prop,(∃ m,W 0 m σ H1)/\∀ i m σ H,W i m σ H ->
 (J.stop i H/\D.nx σ H)\/(J.go i H/\∃ N:St->Hp->Prop,(∀ σ' H',N σ' H'->∃ m',m'<m/\W (i+1) m' σ' H')/\∀ x H',J.yld i H x H'->g x σ H' fun σ2 H2=>tb { D with nx:=N,ct:=N,bk:=D.nx } σ2 H2)
noncomputable def pinsAt(fp:List Addr)(h:Heap):List (Addr×Obj):=fp.filterMap fun b=>(h.get? b).map fun o=>(b,o)
theorem mem_pinsAt{fp:List Addr}{h:Heap}{b:Addr}{o:Obj}(hb:b∈fp)(e:h.get? b=some o):(b,o)∈pinsAt fp h:=List.mem_filterMap.mpr ⟨b,hb,by rw[e];rfl⟩
theorem of_pinsAt{fp:List Addr}{h:Heap}{p:Addr×Obj}(hp:p∈pinsAt fp h):p.1∈fp/\h.get? p.1=some p.2:=by
 obtain⟨b,hb,e⟩:=List.mem_filterMap.mp hp
 cases q:h.get? b with
 |none=>rw[q]at e;cases e
 |some o =>
  rw[q]at e
  have e':(b,o)=p:=Option.some.inj e
  subst e'
  exact⟨hb,q⟩
theorem Inv.pinned{pins:List (Addr×Obj)}{σ:St}{H:Hp}{s:Shared}{fp:List Addr}(I:Inv X pins σ H s)(hf:∀ b∈fp,FpOk X pins H b)(ho:∀ b∈fp,∃ o,s.heap.get? b=some o/\∀ v,o.data≠.cell v):Inv X (pins++pinsAt fp s.heap) σ H s :=
 I.pins_of fun p hp=>(List.mem_append.mp hp).elim (fun z=>I.pin p (List.mem_append_right _ z)) fun z=>by
  obtain⟨hb,e⟩:=of_pinsAt z
  obtain⟨f0,f1,f2,_⟩:=hf p.1 hb
  obtain⟨o,e',d⟩:=ho p.1 hb
  rw[e]at e';cases e'
  exact⟨e,f0,f1,f2,d⟩
theorem Inv.unpinned{pins pl:List (Addr×Obj)}{σ:St}{H:Hp}{s:Shared}(I:Inv X (pins++pl) σ H s):Inv X pins σ H s:=I.pins_of fun p hp=>I.pin p (List.mem_append_right _ (List.mem_append_left _ hp))
theorem ps_for{iter:Expr}{body:List Stmt}{wi:TI}{g:TG}{tb:TS}{pos:Pos}(hp:PassesOwn (model X.prog X.w) X.A X.env X.xe)(hc:X.calm=true)(hi:PI X tg iter wi)(hg:PG X tg g)(hb:PSs X body tb)
  (hs:∀ x,foldedSetIterable iter X.env x=pure x:=by intro _;rfl):PS X (.For tg iter body [] pos) (tFor wi g tb):=by
 intro pins s σ H D I h
 refine wpAny_For (thn (hi pins s σ H _ I h) fun v s1 h1=>thn h1 fun itv s2 h2=>?_) hs
 obtain⟨it,fp,tn,J,H2,e,I2,T,st2,f2,W,⟨m0,w0⟩,turn⟩:=h2
 subst e
 -- what stays true of the iterator's objects through the loop
 have stat:∀ {H':Hp},(∀ b∈fp,H' b=none)->∀ b∈fp,FpOk X pins H' b:=fun hn b hb=>⟨hn b hb,(f2 b hb).2⟩
 refine codeAny_forLoop_any (fun n s'=>∃ i σ' H',Inv X pins σ' H' s'/\tn i s'.heap/\(∀ b∈fp,H' b=none)/\W i n σ' H') ?_ m0 ⟨0,σ,H2,I2,st2,fun b hb=>(f2 b hb).1,w0⟩
 rintro n s3 ⟨i,σ3,H3,I3,st3,fr3,w3⟩
 rcases turn i n σ3 H3 w3 with⟨stop,qn⟩ |⟨go,N,hN,step⟩
 ·refine wpAny_passesOwn hp (thn (T.done X rfl rfl rfl hc i pins s3 σ3 H3 X.xe I3 (stat fr3) st3 stop) fun r s4 ⟨hr,I4⟩=>?_)
  subst hr
  exact wpAny_execs_nil ⟨σ3,H3,I4,qn⟩
 ·refine wpAny_passesOwn hp (thn (T.item X rfl rfl rfl hc i pins s3 σ3 H3 X.xe I3 (stat fr3) st3 go) fun r s4 ⟨u,hr,h4⟩=>?_)
  subst hr
  refine wpAny_passesOwn hp (thn h4 fun _ s5 ⟨x,H5,I5,r5,y5,st5,fr5⟩=>?_)
  have I5':=I5.pinned (stat fr5) (T.obj _ _ st5)
  refine wpAny_passesOwn hp (thn (hg _ s5 σ3 H5 x u _ I5' r5 (step x H5 y5)) fun _ s6 ⟨σ6,H6,I6,q6⟩=>?_)
  refine wpAny_passesOwn hp (thn (hb _ s6 σ6 H6 _ I6 q6) fun f s7 q7=>?_)
  have again:∀ {σ7:St}{H7:Hp},Inv X (pins++pinsAt fp s5.heap) σ7 H7 s7->N σ7 H7->∃ m,m<n/\∃ i σ' H',Inv X pins σ' H' s7/\tn i s7.heap/\(∀ b∈fp,H' b=none)/\W i m σ' H':=fun {σ7 H7} I7 n7=>by
   obtain⟨m',hm,w7⟩:=hN σ7 H7 n7
   refine⟨m',hm,i+1,σ7,H7,I7.unpinned,T.keep _ _ _ st5 fun b hb o e=>(I7.pin (b,o) (List.mem_append_right _ (List.mem_append_right _ (mem_pinsAt hb e)))).1,fun b hb=>?_,w7⟩
   obtain⟨o,e,d⟩:=T.obj _ _ st5 b hb
   exact(I7.pin (b,o) (List.mem_append_right _ (List.mem_append_right _ (mem_pinsAt hb e)))).2.1
  cases f with
  |next=>obtain⟨σ7,H7,I7,n7⟩:=q7;exact again I7 n7
  |cont=>obtain⟨σ7,H7,I7,n7⟩:=q7;exact again I7 n7
  |brk=>obtain⟨σ7,H7,I7,q7⟩:=q7;exact⟨σ7,H7,I7.unpinned,q7⟩
  |ret v=>obtain⟨x7,σ7,H7,I7,r7,q7⟩:=q7;exact⟨x7,σ7,H7,I7.unpinned,r7,q7⟩
end
theorem for_list{K:PySem.W.Frag}{a:Addr}{xs:List V}{g:TG}{tb:TS}{D:Ends}{σ:St}{H:Hp}(Pv:Nat->St->Hp->Prop)(h0:Pv 0 σ H)(hl:∀ i σ H,i<=xs.length->Pv i σ H->SqL K H a xs)
  (hs:∀ i x σ H,xs[i]?=some x->Pv i σ H->g x σ H fun σ2 H2=>tb { D with nx:=Pv (i+1),ct:=Pv (i+1),bk:=D.nx } σ2 H2) (hd:∀ σ H,Pv xs.length σ H->D.nx σ H) :
  ∃ W:Nat->Nat->St->Hp->Prop,(∃ m,W 0 m σ H)/\∀ i m σ H,W i m σ H ->
   ((Itl K a).stop i H/\D.nx σ H)\/((Itl K a).go i H/\∃ N:St->Hp->Prop,(∀ σ' H',N σ' H'->∃ m',m'<m/\W (i+1) m' σ' H')/\∀ x H',(Itl K a).yld i H x H'->g x σ H' fun σ2 H2=>tb { D with nx:=N,ct:=N,bk:=D.nx } σ2 H2):=by
 refine⟨fun i m σ H=>m=xs.length-i/\i<=xs.length/\Pv i σ H,⟨xs.length,by simp,Nat.zero_le _,h0⟩,?_⟩
 rintro i m σ H ⟨rfl,hi,p⟩
 have q:=hl i σ H hi p
 by_cases hlt:i<xs.length
 ·refine .inr ⟨⟨xs,xs[i],q,by simp[hlt]⟩,Pv (i+1),fun σ' H' p'=>⟨xs.length-(i+1),by omega,rfl,hlt,p'⟩,fun x H' y=>?_⟩
  obtain⟨e,y⟩:=y
  subst e
  exact hs i x σ _ (y xs q) p
 ·have e:i=xs.length:=by lia
  subst e
  exact .inl ⟨⟨xs,q,Nat.le_refl _⟩,hd σ H p⟩
theorem for_tup{K:PySem.W.Frag}{a:Addr}{xs:List V}{g:TG}{tb:TS}{D:Ends}{σ:St}{H:Hp}(Pv:Nat->St->Hp->Prop)(h0:Pv 0 σ H)(hl:∀ i σ H,i<=xs.length->Pv i σ H->SqT K H a xs)
  (hs:∀ i x σ H,xs[i]?=some x->Pv i σ H->g x σ H fun σ2 H2=>tb { D with nx:=Pv (i+1),ct:=Pv (i+1),bk:=D.nx } σ2 H2) (hd:∀ σ H,Pv xs.length σ H->D.nx σ H) :
  ∃ W:Nat->Nat->St->Hp->Prop,(∃ m,W 0 m σ H)/\∀ i m σ H,W i m σ H ->
   ((Itt K a).stop i H/\D.nx σ H)\/((Itt K a).go i H/\∃ N:St->Hp->Prop,(∀ σ' H',N σ' H'->∃ m',m'<m/\W (i+1) m' σ' H')/\∀ x H',(Itt K a).yld i H x H'->g x σ H' fun σ2 H2=>tb { D with nx:=N,ct:=N,bk:=D.nx } σ2 H2):=by
 refine⟨fun i m σ H=>m=xs.length-i/\i<=xs.length/\Pv i σ H,⟨xs.length,by simp,Nat.zero_le _,h0⟩,?_⟩
 rintro i m σ H ⟨rfl,hi,p⟩
 have q:=hl i σ H hi p
 by_cases hlt:i<xs.length
 ·refine .inr ⟨⟨xs,xs[i],q,by simp[hlt]⟩,Pv (i+1),fun σ' H' p'=>⟨xs.length-(i+1),by omega,rfl,hlt,p'⟩,fun x H' y=>?_⟩
  obtain⟨e,y⟩:=y
  subst e
  exact hs i x σ _ (y xs q) p
 ·have e:i=xs.length:=by lia
  subst e
  exact .inl ⟨⟨xs,q,Nat.le_refl _⟩,hd σ H p⟩
theorem for_range{lo:Int}{n:Nat}{g:TG}{tb:TS}{D:Ends}{σ:St}{H:Hp}(Pv:Nat->St->Hp->Prop)(h0:Pv 0 σ H)
  (hs:∀ i σ H,i<n->Pv i σ H->g (.int (lo+i)) σ H fun σ2 H2=>tb { D with nx:=Pv (i+1),ct:=Pv (i+1),bk:=D.nx } σ2 H2) (hd:∀ σ H,Pv n σ H->D.nx σ H) :
  ∃ W:Nat->Nat->St->Hp->Prop,(∃ m,W 0 m σ H)/\∀ i m σ H,W i m σ H ->
   ((Itr lo n).stop i H/\D.nx σ H)\/((Itr lo n).go i H/\∃ N:St->Hp->Prop,(∀ σ' H',N σ' H'->∃ m',m'<m/\W (i+1) m' σ' H')/\∀ x H',(Itr lo n).yld i H x H'->g x σ H' fun σ2 H2=>tb { D with nx:=N,ct:=N,bk:=D.nx } σ2 H2):=by
 refine⟨fun i m σ H=>m=n-i/\i<=n/\Pv i σ H,⟨n,by simp,Nat.zero_le _,h0⟩,?_⟩
 rintro i m σ H ⟨rfl,hi,p⟩
 by_cases hlt:i<n
 ·refine .inr ⟨hlt,Pv (i+1),fun σ' H' p'=>⟨n-(i+1),by omega,rfl,hlt,p'⟩,fun x H' y=>?_⟩
  obtain⟨e,y⟩:=y
  subst e y
  exact hs i σ _ hlt p
 ·have e:i=n:=by lia
  subst e
  exact .inl ⟨Nat.le_refl _,hd σ H p⟩
open PySem PySem.Spec PyProof.Rows
noncomputable abbrev R2:=V->V->Hp->VK->Prop
noncomputable def OpR(X:Cx)(f:Value->Value->Sem Value)(r:R2):Prop :=
 ∀ (pins:List (Addr×Obj)) (s:Shared) (σ:St) (H:Hp) (x y:V) (v u:Value) (Q:VK),Inv X pins σ H s->RelV x v->RelV y u->r x y H Q ->
  wpAny (model X.prog X.w) X.A (f v u) (EP X pins σ Q) X.xe s
noncomputable def UnR(X:Cx)(f:Value->Sem Value)(r:V->Hp->VK->Prop):Prop :=
 ∀ (pins:List (Addr×Obj)) (s:Shared) (σ:St) (H:Hp) (x:V) (v:Value) (Q:VK),Inv X pins σ H s->RelV x v->r x H Q ->
  wpAny (model X.prog X.w) X.A (f v) (EP X pins σ Q) X.xe s
noncomputable def CallR(X:Cx)(f:Value)(r:List V->Hp->VK->Prop):Prop :=
 ∀ (pins:List (Addr×Obj)) (s:Shared) (σ:St) (H:Hp) (xs:List V) (us:List Value) (Q:VK),Inv X pins σ H s->Vals xs us->r xs H Q ->
  wpAny (model X.prog X.w) X.A (call f us) (EP X pins σ Q) X.xe s
noncomputable def TruR(X:Cx)(r:V->Hp->(Bool->Hp->Prop)->Prop):Prop :=
 ∀ (pins:List (Addr×Obj)) (s:Shared) (σ:St) (H:Hp) (x:V) (v:Value) (Q:Bool->Hp->Prop),Inv X pins σ H s->RelV x v->r x H Q ->
  wpAny (model X.prog X.w) X.A (truthy v) (TP X pins σ Q) X.xe s
noncomputable def tOp(r:R2)(ta tb:TE):TE:=fun σ H Q=>ta σ H fun x H1=>tb σ H1 fun y H2=>r x y H2 Q
noncomputable def tUn(r:V->Hp->VK->Prop)(ta:TE):TE:=fun σ H Q=>ta σ H fun x H1=>r x H1 Q
inductive rII(C:Int->Int->Prop)(g:Int->Int->V)(x:V)(y:V)(H:Hp)(Q:VK):Prop where
 |mk (i:_) (j:_) (h1:x = .int i) (h2:y = .int j) (h3:C i j) (h4:Q (g i j) H)
noncomputable def rI(C:Int->Int->Prop)(g:Int->Int->V):R2:=fun x y H Q=>rII C g x y H Q
inductive rI0I(g:Int->Int->V)(x:V)(y:V)(H:Hp)(Q:VK):Prop where
 |mk (i:_) (j:_) (h1:x = .int i) (h2:y = .int j) (h3:Q (g i j) H)
noncomputable def rI0(g:Int->Int->V):R2:=fun x y H Q=>rI0I g x y H Q
inductive rUI(g:Int->V)(x:V)(H:Hp)(Q:VK):Prop where
 |mk (i:_) (h1:x = .int i) (h2:Q (g i) H)
noncomputable def rU(g:Int->V):V->Hp->VK->Prop:=fun x H Q=>rUI g x H Q
section
variable{X:Cx}{a b c:Expr}{ta tb tc:TE}{pos:Pos}
theorem binT(ha:PE X a ta)(hb:PE X b tb){pins:List (Addr×Obj)}{s:Shared}{σ:St}{H:Hp}{R:V->V->Hp->Prop}(I:Inv X pins σ H s)
  (h:ta σ H fun x H1=>tb σ H1 fun y H2=>R x y H2) {Q:Value->Shared->Prop}{f:Value->Value->Sem Value}
  (hf:∀ v u s2 x y H2,Inv X pins σ H2 s2->RelV x v->RelV y u->R x y H2->wpAny (model X.prog X.w) X.A (f v u) Q X.xe s2) :
  wpAny (model X.prog X.w) X.A (eval a X.env) (fun v s₁=>wpAny (model X.prog X.w) X.A (eval b X.env) (fun u s₂=>wpAny (model X.prog X.w) X.A (f v u) Q X.xe s₂) X.xe s₁) X.xe s:=by
 refine thn (ha pins s σ H _ I h) fun v s1 ⟨x,H1,I1,r1,q1⟩=>?_
 refine thn (hb pins s1 σ H1 _ I1 q1) fun u s2 ⟨y,H2,I2,r2,q2⟩=>?_
 exact hf v u s2 x y H2 I2 r1 r2 q2
theorem pe_op{op:Operator}{r:R2}(ho:OpR X (binaryOp op) r)(ha:PE X a ta)(hb:PE X b tb):PE X (.BinOp a op b pos) (tOp r ta tb):=by
 intro pins s σ H Q I h
 exact wpAny_BinOp (binT ha hb I h fun v u s2 x y H2 I2 rx ry q=>ho pins s2 σ H2 x y v u Q I2 rx ry q)
theorem pe_un{op:UnaryOp}{r:V->Hp->VK->Prop}(ho:UnR X (unaryOp op) r)(ha:PE X a ta):PE X (.UnaryOp op a pos) (tUn r ta):=by
 intro pins s σ H Q I h
 exact UnaryOp_ (thn (ha pins s σ H _ I h) fun v s1 ⟨x,H1,I1,r1,q1⟩=>ho pins s1 σ H1 x v Q I1 r1 q1)
theorem opI{f:Value->Value->Sem Value}{C:Int->Int->Prop}{g:Int->Int->Int}
  (rule:∀ (i j:Int) (t u:Tok) (s:Shared) (Q:Value->Shared->Prop) (E:Value->Shared->Prop),C i j->Q (.int (g i j) s.toks) { s with toks:=s.toks+1 }->wpAny (model X.prog X.w) X.A (f (.int i t) (.int j u)) Q E s) :
  OpR X f (rI C fun i j=>.int (g i j)):=by
 intro pins s σ H x y v u Q I rx ry h
 obtain⟨i,j,rfl,rfl,hc,q⟩:=h
 obtain⟨t,rfl⟩:=rx
 obtain⟨t',rfl⟩:=ry
 exact rule i j t t' s _ _ hc ⟨.int (g i j),H,I.tok _,⟨_,rfl⟩,q⟩
theorem opI0{f:Value->Value->Sem Value}{g:Int->Int->Int}
  (rule:∀ (i j:Int) (t u:Tok) (s:Shared) (Q:Value->Shared->Prop) (E:Value->Shared->Prop),Q (.int (g i j) s.toks) { s with toks:=s.toks+1 }->wpAny (model X.prog X.w) X.A (f (.int i t) (.int j u)) Q E s) :
  OpR X f (rI0 fun i j=>.int (g i j)):=by
 intro pins s σ H x y v u Q I rx ry h
 obtain⟨i,j,rfl,rfl,q⟩:=h
 obtain⟨t,rfl⟩:=rx
 obtain⟨t',rfl⟩:=ry
 exact rule i j t t' s _ _ ⟨.int (g i j),H,I.tok _,⟨_,rfl⟩,q⟩
theorem opB0{f:Value->Value->Sem Value}{g:Int->Int->Bool}
  (rule:∀ (i j:Int) (t u:Tok) (s:Shared) (Q:Value->Shared->Prop) (E:Value->Shared->Prop),Q (.bool (g i j)) s->wpAny (model X.prog X.w) X.A (f (.int i t) (.int j u)) Q E s) :
  OpR X f (rI0 fun i j=>.bl (g i j)):=by
 intro pins s σ H x y v u Q I rx ry h
 obtain⟨i,j,rfl,rfl,q⟩:=h
 obtain⟨t,rfl⟩:=rx
 obtain⟨t',rfl⟩:=ry
 exact rule i j t t' s _ _ ⟨.bl (g i j),H,I,rfl,q⟩
noncomputable def CDiv(i j:Int):Prop:=0<j/\j<1073741824
noncomputable def CPow(i j:Int):Prop:=0<=j/\j<=1000000/\i.natAbs<2 ^ 64
noncomputable def CMul(i j:Int):Prop:=(-(2 ^ 64)<i/\i<2 ^ 64)\/(-(2 ^ 64)<j/\j<2 ^ 64)
theorem CMul.ok{i j:Int}(h:CMul i j):IntMulOk i j:=by
 rcases h with⟨h1,h2⟩ |⟨h1,h2⟩
 ·exact .of_left (intBits_le_64 h1 h2)
 ·exact .of_right (intBits_le_64 h1 h2)
theorem op_add:OpR X (binaryOp .Add) (rI0 fun i j=>.int (i+j)):=opI0 fun _ _ _ _ _ _ _ q=>add_int q
theorem op_sub:OpR X (binaryOp .Sub) (rI0 fun i j=>.int (i-j)):=opI0 fun _ _ _ _ _ _ _ q=>sub_int q
theorem op_mul:OpR X (binaryOp .Mult) (rI CMul fun i j=>.int (i * j)):=opI fun _ _ _ _ _ _ _ hc q=>mul_int q hc.ok
theorem op_fdiv:OpR X (binaryOp .FloorDiv) (rI CDiv fun i j=>.int (i / j)):=opI fun i j _ _ _ _ _ hc q=>by
 have h1:(0:Int)<j:=hc.1
 have h2:j<1073741824:=hc.2
 exact floordiv_int (by lia) (by rw[Int.fdiv_eq_ediv_of_nonneg i (by lia)];exact q) (.inl (PyProof.noPylong_small (by omega)))
theorem op_mod:OpR X (binaryOp .Mod) (rI (fun _ j=>0<j) fun i j=>.int (i % j)):=opI fun i j _ _ _ _ _ hc q=>by
 have h1:(0:Int)<j:=hc
 exact mod_int' (by lia) (by rw[Int.fmod_eq_emod_of_nonneg i (by lia)];exact q)
theorem op_pow:OpR X (binaryOp .Pow) (rI CPow fun i j=>.int (i ^ j.toNat)):=opI fun _ _ _ _ _ _ _ hc q=>pow_int_small hc.1 hc.2.1 hc.2.2 q
theorem unI{f:Value->Sem Value}{g:Int->Int}
  (rule:∀ (i:Int) (t:Tok) (s:Shared) (Q:Value->Shared->Prop) (E:Value->Shared->Prop),Q (.int (g i) s.toks) { s with toks:=s.toks+1 }->wpAny (model X.prog X.w) X.A (f (.int i t)) Q E s) :
  UnR X f (rU fun i=>.int (g i)):=by
 intro pins s σ H x v Q I rx h
 obtain⟨i,rfl,q⟩:=h
 obtain⟨t,rfl⟩:=rx
 exact rule i t s _ _ ⟨.int (g i),H,I.tok _,⟨_,rfl⟩,q⟩
theorem un_neg:UnR X (unaryOp .USub) (rU fun i=>.int (-i)):=unI fun _ _ _ _ _ q=>neg_int q
end
noncomputable def scal:V->V->Bool
 | .non,.non=>true | .non,.int _=>true | .int _,.non=>true | .non,.bl _=>true | .bl _,.non=>true | .non,.str _=>true | .str _,.non=>true
 | .int _,.int _=>true | .bl _,.bl _=>true | .str _,.str _=>true | .byt _,.byt _=>true
 | .int _,.str _=>true | .str _,.int _=>true | .bl _,.str _=>true | .str _,.bl _=>true
 | _,_=>false
noncomputable def rEq:R2:=fun x y H Q=>scal x y=true/\Q (.bl (decide (x=y))) H
noncomputable def rNe:R2:=fun x y H Q=>scal x y=true/\Q (.bl (!decide (x=y))) H
theorem dec_int{i j:Int}:decide (V.int i=V.int j)=(i == j):=by
 rw[Bool.eq_iff_iff]
 simp
theorem dec_bl{i j:Bool}:decide (V.bl i=V.bl j)=(i == j):=by
 rw[Bool.eq_iff_iff]
 simp
theorem dec_str{i j:Str}:decide (V.str i=V.str j)=(i == j):=by
 rw[Bool.eq_iff_iff]
 simp
theorem dec_byt{i j:Array UInt8}:decide (V.byt i=V.byt j)=(i.toList == j.toList):=by
 rw[Bool.eq_iff_iff]
 cases i
 cases j
 simp
section
variable{X:Cx}{a b c:Expr}{ta tb tc:TE}{pos:Pos}
theorem fin_bl{pins:List (Addr×Obj)}{σ:St}{H:Hp}{s:Shared}{Q:VK}{k k':Bool}(I:Inv X pins σ H s)(q:Q (.bl k) H)(e:k=k'):EP X pins σ Q (.bool k') s:=by
 subst e
 exact⟨.bl k,H,I,rfl,q⟩
theorem op_eq:OpR X (compareOp .Eq) rEq:=by
 intro pins s σ H x y v u Q I rx ry h
 obtain⟨hs,q⟩:=h
 cases x with
 |non =>
  cases rx
  cases y with
  |non=>cases ry;exact PySem.EqNone.eq_none_none (fin_bl I q (by simp))
  |bl j=>cases ry;exact PySem.EqNone.eq_none_bool (fin_bl I q (by simp))
  |int j=>obtain⟨t',rfl⟩:=ry;exact PySem.EqNone.eq_none_int (fin_bl I q (by simp))
  |str j=>obtain⟨t',rfl⟩:=ry;exact PySem.EqNone.eq_none_str (fin_bl I q (by simp))
  | _=>exact absurd (show false=true from hs) Bool.false_ne_true
 |bl i =>
  cases rx
  cases y with
  |non=>cases ry;exact PySem.EqNone.eq_bool_none (fin_bl I q (by simp))
  |bl j=>cases ry;exact eq_bool (fin_bl I q dec_bl)
  |str j=>obtain⟨t',rfl⟩:=ry;exact PySem.EqMixed.eq_bool_str (fin_bl I q (by simp))
  | _=>exact absurd (show false=true from hs) Bool.false_ne_true
 |int i =>
  obtain⟨t,rfl⟩:=rx
  cases y with
  |non=>cases ry;exact PySem.EqNone.eq_int_none (fin_bl I q (by simp))
  |int j=>obtain⟨t',rfl⟩:=ry;exact eq_int (fin_bl I q dec_int)
  |str j=>obtain⟨t',rfl⟩:=ry;exact PySem.EqMixed.eq_int_str (fin_bl I q (by simp))
  | _=>exact absurd (show false=true from hs) Bool.false_ne_true
 |str i =>
  obtain⟨t,rfl⟩:=rx
  cases y with
  |non=>cases ry;exact PySem.EqNone.eq_str_none (fin_bl I q (by simp))
  |bl j=>cases ry;exact PySem.EqMixed.eq_str_bool (fin_bl I q (by simp))
  |int j=>obtain⟨t',rfl⟩:=ry;exact PySem.EqMixed.eq_str_int (fin_bl I q (by simp))
  |str j=>obtain⟨t',rfl⟩:=ry;exact eq_str (fin_bl I q dec_str)
  | _=>exact absurd (show false=true from hs) Bool.false_ne_true
 |byt i =>
  obtain⟨t,rfl⟩:=rx
  cases y with
  |byt j=>obtain⟨t',rfl⟩:=ry;exact PySem.W.eq_bytes (fin_bl I q dec_byt)
  | _=>exact absurd (show false=true from hs) Bool.false_ne_true
 | _=>cases y <;> exact absurd (show false=true from hs) Bool.false_ne_true
theorem op_ne:OpR X (compareOp .NotEq) rNe:=by
 intro pins s σ H x y v u Q I rx ry h
 obtain⟨hs,q⟩:=h
 cases x with
 |non =>
  cases rx
  cases y with
  |non=>cases ry;exact PySem.EqNone.ne_none_none (fin_bl I q (by simp))
  |bl j=>cases ry;exact PySem.EqNone.ne_none_bool (fin_bl I q (by simp))
  |int j=>obtain⟨t',rfl⟩:=ry;exact PySem.EqNone.ne_none_int (fin_bl I q (by simp))
  |str j=>obtain⟨t',rfl⟩:=ry;exact PySem.EqNone.ne_none_str (fin_bl I q (by simp))
  | _=>exact absurd (show false=true from hs) Bool.false_ne_true
 |bl i =>
  cases rx
  cases y with
  |non=>cases ry;exact PySem.EqNone.ne_bool_none (fin_bl I q (by simp))
  |bl j=>cases ry;exact ne_bool (fin_bl I q (congrArg not dec_bl))
  |str j=>obtain⟨t',rfl⟩:=ry;exact PySem.EqMixed.ne_bool_str (fin_bl I q (by simp))
  | _=>exact absurd (show false=true from hs) Bool.false_ne_true
 |int i =>
  obtain⟨t,rfl⟩:=rx
  cases y with
  |non=>cases ry;exact PySem.EqNone.ne_int_none (fin_bl I q (by simp))
  |int j=>obtain⟨t',rfl⟩:=ry;exact ne_int (fin_bl I q (congrArg not dec_int))
  |str j=>obtain⟨t',rfl⟩:=ry;exact PySem.EqMixed.ne_int_str (fin_bl I q (by simp))
  | _=>exact absurd (show false=true from hs) Bool.false_ne_true
 |str i =>
  obtain⟨t,rfl⟩:=rx
  cases y with
  |non=>cases ry;exact PySem.EqNone.ne_str_none (fin_bl I q (by simp))
  |bl j=>cases ry;exact PySem.EqMixed.ne_str_bool (fin_bl I q (by simp))
  |int j=>obtain⟨t',rfl⟩:=ry;exact PySem.EqMixed.ne_str_int (fin_bl I q (by simp))
  |str j=>obtain⟨t',rfl⟩:=ry;exact ne_str (fin_bl I q (congrArg not dec_str))
  | _=>exact absurd (show false=true from hs) Bool.false_ne_true
 |byt i =>
  obtain⟨t,rfl⟩:=rx
  cases y with
  |byt j=>obtain⟨t',rfl⟩:=ry;exact PySem.W.ne_bytes (fin_bl I q (congrArg not dec_byt))
  | _=>exact absurd (show false=true from hs) Bool.false_ne_true
 | _=>cases y <;> exact absurd (show false=true from hs) Bool.false_ne_true
theorem op_lt:OpR X (compareOp .Lt) (rI0 fun i j=>.bl (decide (i<j))):=opB0 fun _ _ _ _ _ _ _ q=>lt_int q
theorem op_le:OpR X (compareOp .LtE) (rI0 fun i j=>.bl (decide (i<=j))):=opB0 fun _ _ _ _ _ _ _ q=>le_int q
theorem op_gt:OpR X (compareOp .Gt) (rI0 fun i j=>.bl (decide (j<i))):=opB0 fun _ _ _ _ _ _ _ q=>gt_int q
theorem op_ge:OpR X (compareOp .GtE) (rI0 fun i j=>.bl (decide (j<=i))):=opB0 fun _ _ _ _ _ _ _ q=>ge_int q
theorem nomark(b:Expr){op:CmpOp}(h:op≠.In:=by decide)(h2:op≠.NotIn:=by decide):behindInMarks op b=false:=by
 have e1:(op == CmpOp.In)=false:=by cases op <;> first | rfl | exact absurd rfl h
 have e2:(op == CmpOp.NotIn)=false:=by cases op <;> first | rfl | exact absurd rfl h2
 cases b <;> simp[behindInMarks,e1,e2]
theorem pe_cmpR{op:CmpOp}{r:R2}(ho:OpR X (compareOp op) r)(ha:PE X a ta)(hb:PE X b tb)(hm:behindInMarks op b=false):PE X (.Compare a [op] [b] pos) (tOp r ta tb):=by
 intro pins s σ H Q I h
 exact wpAny_Compare1 (binT ha hb I h fun v u s2 x y H2 I2 rx ry q=>ho pins s2 σ H2 x y v u Q I2 rx ry q) hm
noncomputable def tTest(t:TE):TT:=fun σ H Q=>t σ H fun x H'=>ExB x fun k=>Q k H'
theorem pt_cmpR{op:CmpOp}{r:R2}(ho:OpR X (compareOp op) r)(ha:PE X a ta)(hb:PE X b tb)(hm:behindInMarks op b=false):PT X (.Compare a [op] [b] pos) (tTest (tOp r ta tb)):=by
 intro pins s σ H Q I h
 refine wpAny_isTrue_Compare1 (thn (ha pins s σ H _ I h) fun v s1 ⟨x,H1,I1,r1,q1⟩=>thn (hb pins s1 σ H1 _ I1 q1) fun u s2 ⟨y,H2,I2,r2,q2⟩ =>
  thn (ho pins s2 σ H2 x y v u _ I2 r1 r2 q2) fun c s3 ⟨z,H3,I3,r3,k,e,q3⟩=>?_) hm
 subst e
 cases r3
 exact wpAny_truthy_bool ⟨H3,I3,q3⟩
noncomputable def TruV(K:PySem.W.Frag)(x:V)(H:Hp)(k:Bool):Prop :=
 match x with
 | .non=>k=false
 | .bl b=>k=b
 | .int i=>k=(i != 0)
 | .str y=>y.length<=sizeLine/\k=((y.length:Int) != 0)
 | .byt y=>y.size<=sizeLine/\k=((y.size:Int) != 0)
 | .ref p=>(∃ xs,SqL K H p xs/\k = !xs.isEmpty)\/(∃ xs,SqT K H p xs/\k = !xs.isEmpty)\/∃ kvs,H p=some (.dK kvs)/\k = !kvs.isEmpty
 | _=>False
theorem isEmpty_kv{κ:Type}{kvs:List (κ×V)}{vs:List (κ×Value)}(r:KV kvs vs):(!vs.isEmpty) = !kvs.isEmpty:=by
 cases r <;> rfl
theorem isEmpty_of{xs:List V}{its:List Value}(r:Vals xs its):(!its.toArray.isEmpty) = !xs.isEmpty:=by
 cases r <;> simp
theorem line63:(sizeLine:Nat)<2 ^ 63:=by rw[sizeLine_eq];decide
theorem tru_ok:TruR X (fun x H Q=>∃ k,TruV X.K x H k/\Q k H):=by
 intro pins s σ H x v Q I rx h
 obtain⟨k,e,q⟩:=h
 have hl:=line63
 have hs:sizeLine=16777216:=sizeLine_eq
 cases x with
 |non =>
  cases rx
  have e':k=false:=e
  subst e'
  exact truthy_none ⟨H,I,q⟩
 |bl b =>
  cases rx
  have e':k=b:=e
  subst e'
  exact wpAny_truthy_bool ⟨H,I,q⟩
 |int i =>
  obtain⟨t,rfl⟩:=rx
  have e':k=(i != 0):=e
  subst e'
  exact PySem.P.truthy_int ⟨H,I,q⟩
 |str y =>
  obtain⟨t,rfl⟩:=rx
  obtain⟨hy,e'⟩:y.length<=sizeLine/\k=((y.length:Int) != 0):=e
  subst e'
  exact PySem.P.truthy_str (by lia) ⟨H,I.tok _,q⟩
 |byt y =>
  obtain⟨t,rfl⟩:=rx
  obtain⟨hy,e'⟩:y.size<=sizeLine/\k=((y.size:Int) != 0):=e
  subst e'
  exact PySem.W.truthy_bytes (by lia) ⟨H,I.tok _,q⟩
 |ref p =>
  cases rx
  have e':(∃ xs,SqL X.K H p xs/\k = !xs.isEmpty)\/(∃ xs,SqT X.K H p xs/\k = !xs.isEmpty)\/∃ kvs,H p=some (.dK kvs)/\k = !kvs.isEmpty:=e
  rcases e' with⟨xs,hx,e'⟩ |⟨xs,hx,e'⟩ |⟨kvs,hx,e'⟩
  ·subst e'
   obtain⟨its,r,pl,hz⟩:=I.list hx
   have hlen:=r.length
   exact wpAny_truthy_list pl.isList (by simp only[List.size_toArray];lia) ⟨H,I.tok _,by rw[isEmpty_of r];exact q⟩
  ·subst e'
   obtain⟨its,r,pl,hz⟩:=I.tuple hx
   have hlen:=r.length
   exact truthy_tuple pl (by simp only[List.size_toArray];lia) ⟨H,I.tok _,by rw[isEmpty_of r];exact q⟩
  ·subst e'
   obtain⟨hz,hS,vs,r,m⟩:kvs.length<=sizeLine/\(p == sysModules)=false/\∃ vs,KV kvs vs/\s.heap.DictOf (mixKind X.prog X.w) p vs:=I.hok p _ hx
   have hlen:kvs.length=vs.length:=Paired.length r
   exact wpAny_truthy_dict hS m (by lia) ⟨H,I.tok _,by rw[isEmpty_kv r];exact q⟩
 | _=>exact(show False from e).elim
theorem pt_truth(ha:PE X a ta)(he:∀ whole,isTrue a X.env whole=(do let v <- whole;standAt a.pos;holding [v] (truthy v))) :
  PT X a (fun σ H Q=>ta σ H fun x H'=>∃ k,TruV X.K x H' k/\Q k H'):=by
 intro pins s σ H Q I h
 exact isTrue_plain (thn (ha pins s σ H _ I h) fun v s1 ⟨x,H1,I1,r1,q1⟩=>tru_ok pins s1 σ H1 x v Q I1 r1 q1) (he _)
theorem vals1{x:V}{us:List Value}(r:Vals [x] us):∃ u,us=[u]/\RelV x u:=by
 cases r with
 |cons r1 r2=>cases r2;exact⟨_,rfl,r1⟩
theorem vals2{x y:V}{us:List Value}(r:Vals [x,y] us):∃ u w',us=[u,w']/\RelV x u/\RelV y w':=by
 cases r with
 |cons r1 r2 =>
  cases r2 with
  |cons r3 r4=>cases r4;exact⟨_,_,rfl,r1,r3⟩
theorem call_abs:CallR X (.builtin "abs") (fun xs H Q=>∃ i,xs=[.int i]/\Q (.int (if i<0 then -i else i)) H):=by
 intro pins s σ H xs us Q I r h
 obtain⟨i,rfl,q⟩:=h
 obtain⟨u,rfl,t,rfl⟩:=vals1 r
 exact call_abs_int fun u tk=>⟨.int (if i<0 then -i else i),H,I.tok _,⟨_,rfl⟩,q⟩
theorem call_max2(hc:X.calm=true):CallR X (.builtin "max") (fun xs H Q=>∃ i j,xs=[.int i,.int j]/\Q (.int (if j > i then j else i)) H):=by
 intro pins s σ H xs us Q I r h
 obtain⟨i,j,rfl,q⟩:=h
 obtain⟨u,w',rfl,⟨t,rfl⟩,⟨t',rfl⟩⟩:=vals2 r
 refine max_two_ints (I.ok.hd hc) fun h' tk k=>⟨_,H,I.kept k,?_,q⟩
 by_cases hj:j > i
 ·rw[if_pos hj,if_pos hj];exact⟨_,rfl⟩
 ·rw[if_neg hj,if_neg hj];exact⟨_,rfl⟩
theorem call_min2(hc:X.calm=true):CallR X (.builtin "min") (fun xs H Q=>∃ i j,xs=[.int i,.int j]/\Q (.int (if j<i then j else i)) H):=by
 intro pins s σ H xs us Q I r h
 obtain⟨i,j,rfl,q⟩:=h
 obtain⟨u,w',rfl,⟨t,rfl⟩,⟨t',rfl⟩⟩:=vals2 r
 refine min_two_ints (I.ok.hd hc) fun h' tk k=>⟨_,H,I.kept k,?_,q⟩
 by_cases hj:j<i
 ·rw[if_pos hj,if_pos hj];exact⟨_,rfl⟩
 ·rw[if_neg hj,if_neg hj];exact⟨_,rfl⟩
theorem call_int1:CallR X (.type "int") (fun xs H Q=>(∃ i,xs=[.int i]/\Q (.int i) H)\/∃ k,xs=[.bl k]/\Q (.int (if k then 1 else 0)) H):=by
 intro pins s σ H xs us Q I r h
 rcases h with⟨i,rfl,q⟩ |⟨k,rfl,q⟩
 ·obtain⟨u,rfl,t,rfl⟩:=vals1 r
  exact call_int_int ⟨.int i,H,I,⟨_,rfl⟩,q⟩
 ·obtain⟨u,rfl,r1⟩:=vals1 r
  cases r1
  exact call_int_bool ⟨.int (if k then 1 else 0),H,I.tok _,⟨_,rfl⟩,q⟩
end
open PySem PySem.Spec PyProof.Rows
theorem RelO.some_of{v:V}{o:Option Value}(r:RelO (some v) o):∃ u,o=some u/\RelV v u:=by
 cases o with
 |none=>exact(show False from r).elim
 |some u=>exact⟨u,rfl,r⟩
open PySem PySem.Spec PyProof.Rows
theorem deep_gd{A:Around}{env:Env}(h:A.guards=some []):(A.deeper env).guards=some []:=by
 first | exact h | simp[Around.deeper,h]
structure Room(k:Nat)(A:Around):Prop where
 hd:A.handled=none
 dp:A.depth+3 * k+5<recursionLimit
 un:A.units+16 * k+200<cLine
 gd:A.guards=some []
theorem Room.mono{j k:Nat}{A:Around}(r:Room k A)(h:j<=k):Room j A:=⟨r.hd,by have:=r.dp;lia,by have:=r.un;lia,r.gd⟩
theorem Room.deeper{k:Nat}{A:Around}(r:Room (k+1) A)(env:Env):Room k (A.deeper env) :=
 ⟨r.hd,by have:=r.dp;show A.depth+1+3 * k+5<_;lia,by have:=r.un;show A.units+3+16 * k+200<_;lia,deep_gd r.gd⟩
theorem Room.in1{k:Nat}{A:Around}(r:Room (k+1) A):Room k A.in1 :=
 ⟨r.hd,by have:=r.dp;show A.depth+3 * k+5<_;lia,by have:=r.un;show A.units+1+16 * k+200<_;lia,r.gd⟩
theorem Room.depth{k:Nat}{A:Around}(r:Room k A):A.depth<recursionLimit:=by have:=r.dp;lia
theorem Room.units{k:Nat}{A:Around}(r:Room k A):A.units+64<cLine:=by have:=r.un;lia
theorem Room.units0{k:Nat}{A:Around}(r:Room k A):A.units<cLine:=by have:=r.un;lia
noncomputable def tNil:TA:=fun _ H Q=>Q [] H
noncomputable def tCons(ta:TE)(tr:TA):TA:=fun σ H Q=>ta σ H fun x H1=>tr σ H1 fun xs H2=>Q (x :: xs) H2
section
variable{X:Cx}{e:Expr}{es:List Expr}{te:TE}{t:TA}{pos:Pos}
theorem pa_nil:PA X [] tNil:=fun _ _ _ _ H Q I h=>Calls.spliced_nil ⟨[],H,I,.nil,h⟩
theorem pa_cons(ha:PE X e te)(hr:PA X es t)(hs:starEach (e :: es) X.env=(false,eval e X.env) :: starEach es X.env:=by rfl):PA X (e :: es) (tCons te t):=by
 intro pos pins s σ H Q I h
 rw[hs]
 show wpAny _ _ (spliced ((false,eval e X.env) :: backTo pos (starEach es X.env))) _ _ s
 refine Calls.spliced_cons (thn (ha pins s σ H _ I h) fun u s1 ⟨x,H1,I1,r1,q1⟩=>?_)
 exact thn (hr pos pins s1 σ H1 _ I1 q1) fun us s2 ⟨xs,H2,I2,r2,q2⟩=>⟨x :: xs,H2,I2,.cons r1 r2,q2⟩
noncomputable def tTup(t:TA):TE:=fun σ H Q=>t σ H fun xs H1=>xs.length<=sizeLine/\∀ p,H1 p=none->Q (.ref p) (upd H1 p (.tup xs))
noncomputable def tLst(t:TA):TE:=fun σ H Q=>t σ H fun xs H1=>xs.length<=sizeLine/\∀ p,H1 p=none->Q (.ref p) (upd H1 p (.lst xs))
theorem pe_tup{x1}(h:PA X es t):PE X (.Tuple es x1 pos) (tTup t):=by
 intro pins s σ H Q I hq
 refine wpAny_Tuple_spliced (thn (h pos pins s σ H _ I hq) fun us s1 ⟨xs,H1,I1,r,z,q⟩=>⟨by rw[<- r.length];exact z,?_⟩)
 have hf:H1 s1.heap.objs.size=none:=I1.hok.fresh (Nat.le_refl _)
 refine⟨.ref s1.heap.objs.size,upd H1 s1.heap.objs.size (.tup xs),I1.laid (t':=s1.toks) (fun b u e=>Heap.get?_push_of_some _ e) (Nat.le_refl _) ?_,rfl,q _ hf⟩
 exact⟨z,us,r,⟨_,Heap.get?_push_size _ rfl,rfl,_,rfl⟩⟩
theorem pe_lst(h:PA X es t):PE X (.List es pos) (tLst t):=by
 intro pins s σ H Q I hq
 refine wpAny_List_spliced (thn (h pos pins s σ H _ I hq) fun us s1 ⟨xs,H1,I1,r,z,q⟩=>⟨by rw[<- r.length];exact z,?_⟩)
 have hf:H1 s1.heap.objs.size=none:=I1.hok.fresh (Nat.le_refl _)
 refine⟨.ref s1.heap.objs.size,upd H1 s1.heap.objs.size (.lst xs),I1.laid (t':=s1.toks) (fun b u e=>Heap.get?_push_of_some _ e) (Nat.le_refl _) ?_,rfl,q _ hf⟩
 exact⟨z,us,0,r,Heap.get?_push_size _ rfl⟩
end
noncomputable abbrev Sp:=List V->Hp->VK->XK->Prop
noncomputable abbrev CXT:=List Env->Hp->Shared->XK->Value->Shared->Prop
structure Env0(P:Program)(w:World)(K:PySem.W.Frag)(mg:Str->Option Value)(base:Heap)(A:Around)(outer:List Env)(s:Shared)(H:Hp):Prop where
 frames:A.frames=some outer
 mod:Mod K mg base
 bs:∀ b o,base.get? b=some o->s.heap.get? b=some o/\H b=none
 bsz:base.objs.size<=s.heap.objs.size
 funs:s.heap.FunFrames base outer
 frf:∀ b∈frs outer,H b=none
 hok:HOk P w H s.heap
 bare:AllBare s.gens
noncomputable def CE(outer:List Env)(P:Program)(w:World)(H:Hp)(s:Shared)(Q:VK)(u:Value)(s':Shared):Prop :=
 ∃ v H',s'.os=s.os/\AllBare s'.gens/\Un (frs outer) [] H H' s.heap s'.heap/\HOk P w H' s'.heap/\RelV v u/\Q v H'
noncomputable def CR(CX:CXT)(outer:List Env)(P:Program)(w:World)(H:Hp)(s:Shared)(Q:VK)(E:XK)(r:Result)(s':Shared):Prop :=
 match r with
 | .ok (.ret u)=>CE outer P w H s Q u s'
 | .ok _=>False
 | .error e=>CX outer H s E e s'
structure FnOk(P:Program)(w:World)(K:PySem.W.Frag)(mg:Str->Option Value)(base:Heap)(CX:CXT)(k:Nat)(f:Addr)(fd:FuncData)(ps:List Str)(sp:Sp):Prop where
 len:∀ vs H Q E,sp vs H Q E->vs.length=ps.length
 run:∀ (A:Around) (outer:List Env) (s:Shared) (H:Hp) (args:Args) (us:List Value) (vs:List V) (Q:VK) (E:XK),Room k A->Env0 P w K mg base A outer s H->BindsTo s fd args (ps.zip us)->Vals vs us->sp vs H Q E ->
  codeAny (model P w) A (.call (.ref f) args) (CR CX outer P w H s Q E) s
section
variable{X:Cx}{pins:List (Addr×Obj)}{σ:St}{H:Hp}{s s':Shared}
theorem Inv.env0(I:Inv X pins σ H s):Env0 X.prog X.w X.K X.mg X.base X.A X.stack s H :=
 ⟨I.ok.frames,I.ok.mod,I.bs,Nat.le_trans I.ok.bsz I.sz,I.stack,I.stkFree,I.hok,I.bare⟩
theorem Inv.after{Q:VK}{u:Value}(I:Inv X pins σ H s)(h:CE X.stack X.prog X.w H s Q u s'):EP X pins σ Q u s':=by
 obtain⟨v,H',os,bare,un,hok,r,q⟩:=h
 obtain⟨hh,g,d,t,os'⟩:=s'
 obtain rfl:os'=s.os:=os
 exact⟨v,H',I.call (h':=hh) (g':=g) (d':=d) (t':=t) (ch:=[]) un hok bare (fun b z=>absurd z (by simp)),r,q⟩
end
noncomputable def tCall(sp:Sp)(dvs:List V)(E:XK)(t:TA):TE:=fun σ H Q=>t σ H fun vs H1=>sp (vs++dvs) H1 Q E
noncomputable def Binds(K:PySem.W.Frag)(fd:FuncData)(ps:List Str)(ds:List Value):Prop :=
 ∀ (s:Shared) (us:List Value),K.In s.heap->(us++ds).length=ps.length->BindsTo s fd ⟨us,[]⟩ (ps.zip (us++ds))
theorem Binds.all{K:PySem.W.Frag}{fd:FuncData}{ps:List Str}(h:∀ us:List Value,us.length=ps.length->bindArgs fd ⟨us,[]⟩=pure (ps.zip us)):Binds K fd ps []:=fun s us _ hl=>by
 rw[List.append_nil]at hl ⊢
 exact .of_eq (h us hl)
noncomputable def Passes(CX:CXT)(X:Cx)(E:XK):Prop:=∀ (pins:List (Addr×Obj)) (σ:St) (H:Hp) (s:Shared) (e:Value) (s':Shared),Inv X pins σ H s->CX X.stack H s E e s'->X.xe e s'
section
variable{X:Cx}{CX:CXT}{k:Nat}{f C:Addr}{fd:FuncData}{ps:List Str}{sp:Sp}{dvs:List V}{ds:List Value}{E:XK}{x m:Str}{p pos apos:Pos}{e o:Expr}{es:List Expr}{ta:TE}{t:TA}
theorem run_fn{pins:List (Addr×Obj)}{σ:St}{H:Hp}{s:Shared}{Q:VK}{us:List Value}{vs:List V}(F:FnOk X.prog X.w X.K X.mg X.base CX k f fd ps sp)(hr:Room k X.A)(hb:Binds X.K fd ps ds)(hd:Vals dvs ds)(hx:Passes CX X E)
  (I:Inv X pins σ H s) (r:Vals vs us) (h:sp (vs++dvs) H Q E):wpAny (model X.prog X.w) X.A (call (.ref f) us) (EP X pins σ Q) X.xe s:=by
 have r2:Vals (vs++dvs) (us++ds):=r.append hd
 have hl:(us++ds).length=ps.length:=by rw[<- r2.length];exact F.len _ _ _ _ h
 refine wpAny_call (codeAny_mono (F.run X.A X.stack s H ⟨us,[]⟩ (us++ds) (vs++dvs) Q E hr I.env0 (hb s us I.kIn hl) r2 h) fun r s' hq=>?_)
 cases r with
 |error e=>exact hx pins σ H s e s' I hq
 |ok fl =>
  cases fl with
  |ret u=>exact I.after hq
  |next=>exact False.elim hq
  |brk=>exact False.elim hq
  |cont=>exact False.elim hq
theorem pe_call(F:FnOk X.prog X.w X.K X.mg X.base CX k f fd ps sp)(hr:Room k X.A)(hg:Gl X x)(hm:X.mg x=some (.ref f))(hk:PySem.W.keepIn X.K (.ref f)=true)(hb:Binds X.K fd ps ds)(hd:Vals dvs ds)(hx:Passes CX X E)
  (ha:PA X (e :: es) t) (hdb:(x ==("__debug__":Str))=false:=by decide) (he:starEach (e :: es) X.env=(false,eval e X.env) :: starEach es X.env:=by rfl) (hpl:(backTo pos (starEach es X.env)).any (·.1)=false:=by rfl) :
  PE X (.Call (.Name x p) (e :: es) [] pos) (tCall sp dvs E t):=by
 intro pins s σ H Q I h
 refine wpAny_Call_Name_kw (ld_glob I hg hm ?_ hdb)
 refine PySem.W.callWith_K (h₀:=X.base) I.ok.mod.kin hk (thn (ha pos pins s σ H _ I h) fun us s1 ⟨vs,H1,I1,r,q⟩=>⟨I1.kIn,?_⟩) he hpl
 exact run_fn F hr hb hd hx I1 r q
end
structure FnScope(N P:List Str)(sc:Scope):Prop where
 kind:sc.kind = .function
 co:sc.isCoroutine=false
 gen:sc.isGenerator=false
 nd:N.Nodup
 pre:N.take P.length=P
 par:∀ x∈P,sc.names.lookup x=some .local\/sc.names.lookup x=some .cell
 nofree:∀ y∈sc.names,y.2≠.free
theorem bindL_out{kindOf:Str->Option NameKind}{x:Str}:∀ {binds:List (Str×Value)}{m:Str->Option Value},(∀ v,(x,v)∉binds)->bindL kindOf binds m x=m x
 |[],_,_=>rfl
 |(n,v) :: r,m,h=>by
  unfold bindL
  rw[bindL_out fun w hw=>h w (List.mem_cons_of_mem _ hw)]
  split
  ·have:x≠n:=by rintro rfl;exact h v List.mem_cons_self
   simp[this]
  ·rfl
theorem bindC_out{kindOf:Str->Option NameKind}{x:Str}:∀ {binds:List (Str×Value)}{m:Str->Option Value},(∀ v,(x,v)∉binds)->bindC kindOf binds m x=m x
 |[],_,_=>rfl
 |(n,v) :: r,m,h=>by
  unfold bindC
  rw[bindC_out fun w hw=>h w (List.mem_cons_of_mem _ hw)]
  split
  ·rfl
  ·have:x≠n:=by rintro rfl;exact h v List.mem_cons_self
   simp[this]
theorem bindL_get{kindOf:Str->Option NameKind}{x:Str}{v:Value}:∀ {P:List Str}{vs:List Value}{i:Nat}{m:Str->Option Value},P.Nodup->P[i]?=some x->vs[i]?=some v->kindOf x=some .local ->
  bindL kindOf (P.zip vs) m x=some v
 |[],_,_,_,_,h,_,_=>by simp at h
 | _ :: _,[],_,_,_,_,h,_=>by simp at h
 |p :: P,w :: vs,0,m,nd,h1,h2,hk=>by
  simp at h1 h2;subst h1;subst h2
  show bindL kindOf ((p,w) :: P.zip vs) m p=_
  unfold bindL
  rw[bindL_out fun v hv=>(List.nodup_cons.mp nd).1 (List.of_mem_zip hv).1,if_pos hk]
  simp
 |p :: P,w :: vs,i+1,m,nd,h1,h2,hk=>by
  show bindL kindOf ((p,w) :: P.zip vs) m x=_
  unfold bindL
  exact bindL_get (i:=i) (List.nodup_cons.mp nd).2 (by simpa using h1) (by simpa using h2) hk
theorem bindC_get{kindOf:Str->Option NameKind}{x:Str}{v:Value}:∀ {P:List Str}{vs:List Value}{i:Nat}{m:Str->Option Value},P.Nodup->P[i]?=some x->vs[i]?=some v->kindOf x≠some .local ->
  bindC kindOf (P.zip vs) m x=some v
 |[],_,_,_,_,h,_,_=>by simp at h
 | _ :: _,[],_,_,_,_,h,_=>by simp at h
 |p :: P,w :: vs,0,m,nd,h1,h2,hk=>by
  simp at h1 h2;subst h1;subst h2
  show bindC kindOf ((p,w) :: P.zip vs) m p=_
  unfold bindC
  rw[bindC_out fun v hv=>(List.nodup_cons.mp nd).1 (List.of_mem_zip hv).1,if_neg hk]
  simp
 |p :: P,w :: vs,i+1,m,nd,h1,h2,hk=>by
  show bindC kindOf ((p,w) :: P.zip vs) m x=_
  unfold bindC
  exact bindC_get (i:=i) (List.nodup_cons.mp nd).2 (by simpa using h1) (by simpa using h2) hk
noncomputable def start(N:List Str)(vs:List V):St:=vs.map some++List.replicate (N.length-vs.length) none
noncomputable def cxOf(CX:CXT)(P:Program)(w:World)(K:PySem.W.Frag)(mg:Str->Option Value)(base:Heap)(N:List Str)(qual:Str)(scope:Scope)(f:Addr)(cd:Value)(A:Around)(outer:List Env)(s:Shared)(H:Hp)(E:XK):Cx where
 prog:=P
 w:=w
 K:=K
 mg:=mg
 base:=base
 A:=A.deeper (envOfC qual scope s.heap.objs.size f cd)
 N:=N
 s₀:=s
 H₀:=H
 env:=envOfC qual scope s.heap.objs.size f cd
 outer:=outer
 stack:=envOfC qual scope s.heap.objs.size f cd :: outer
 ex:=[]
 calm:=true
 fn:=fun _=>true
 pn:=[]
 xe:=fun e s'=>wpAny (model P w) (A.deeper (envOfC qual scope s.heap.objs.size f cd)) (leaving (envOfC qual scope s.heap.objs.size f cd) e) (fun _ s''=>CX outer H s E e s'') (fun e' s''=>CX outer H s E e' s'') s'
theorem cell_has{sc:Scope}{n:Nat}{x:Str}(h:sc.names.lookup x=some .cell):∃ c,(cellsFrom n sc.names []).lookup x=some c:=by
 have q:=PySem.W.cellsFrom_some sc.names n [] (.inl h)
 exact Option.isSome_iff_exists.mp q
theorem inv_start{CX:CXT}{P:Program}{w:World}{K:PySem.W.Frag}{mg:Str->Option Value}{base:Heap}{N ps:List Str}{qual:Str}{scope:Scope}{f:Addr}{cd:Value}{A:Around}{outer:List Env}{s s1:Shared}{H:Hp}{E:XK}{us:List Value}{vs:List V}
  (S:FnScope N ps scope) (hd:A.handled=none) (e0:Env0 P w K mg base A outer s H) (hl:vs.length=ps.length) (r:Vals vs us)
  (x:InCallC s s.heap.objs.size (bindL (envOfC qual scope s.heap.objs.size f cd).kindOf (ps.zip us) fun _=>none) (cellsFrom (s.heap.objs.size+1) scope.names []) (bindC (envOfC qual scope s.heap.objs.size f cd).kindOf (ps.zip us) fun _=>none) s1) :
  Inv (cxOf CX P w K mg base N qual scope f cd A outer s H E) [] (start N vs) H s1:=by
 have hpl:ps.length<=N.length:=by have:=congrArg List.length S.pre;rw[List.length_take]at this;lia
 obtain⟨h1,tk,rfl,hk⟩:=x.done
 have noA:∀ b:Addr,b∉(cxOf CX P w K mg base N qual scope f cd A outer s H E).ex:=fun b z=>absurd (show b∈([]:List Addr)from z) (by simp)
 refine⟨⟨e0.mod,S.kind,rfl,rfl,Nat.le_refl _,fun y z c h1 h2=>?_,fun y hy=>?_,fun y c _ h=>?_,fun _=>hd,Around.frames_deeper e0.frames,.inr ⟨rfl,rfl⟩,fun b z=>absurd z (noA b),e0.bs,e0.bsz,fun b _ _=>noA b,fun b z=>absurd z (noA b),e0.funs,e0.frf⟩,
  rfl,e0.bare,Un.kept hk,⟨_,x.toInCall.ns,fun i y v h1 h2 h3=>?_⟩,fun y c h=>⟨_,x.cell y c h⟩,e0.hok.fresh (Nat.le_refl _),fun y c h=>?_,fun p hp=>absurd (show p∈([]:List (Addr×Obj))from hp) (by simp),e0.hok.kept hk,?_⟩
 ·exact name_of_addr x.apart (PySem.mem_of_lookup h1) (PySem.mem_of_lookup h2)
 ·have hy:scope.names.lookup y=some .cell\/scope.names.lookup y=some .free:=hy
  rcases hy with hy | hy
  ·exact cell_has hy
  ·exact absurd rfl (S.nofree _ (PySem.mem_of_lookup hy))
 ·exact Nat.le_of_lt (x.above y c (PySem.mem_of_lookup h))
 ·have hi:i<vs.length:=by
   unfold start at h2
   by_cases hi:i<vs.length
   ·exact hi
   ·rw[List.getElem?_append_right (by simpa using hi)]at h2
    rw[List.getElem?_replicate]at h2
    split at h2 <;> cases h2
  have ha:vs[i]?=some v:=by
   unfold start at h2
   rw[List.getElem?_append_left (by simpa using hi),List.getElem?_map]at h2
   cases e:vs[i]? with
   |none=>rw[e]at h2;cases h2
   |some a=>rw[e]at h2;cases h2;rfl
  obtain⟨u,hu,rv⟩:=r.get ha
  have hp:ps[i]?=some y:=by
   rw[<- S.pre,List.getElem?_take_of_lt (by lia)];exact h1
  have ndP:ps.Nodup:=by rw[<- S.pre];exact S.nd.sublist (List.take_sublist _ _)
  refine⟨u,rv,?_⟩
  rcases S.par y (List.mem_of_getElem? hp)with k | k
  ·exact .inl ⟨k,bindL_get ndP hp hu k⟩
  ·obtain⟨c,e⟩:=cell_has (n:=s.heap.objs.size+1) k
   refine .inr ⟨.inl k,c,e,?_⟩
   have q:=x.cell y c e
   rw[bindC_get ndP hp hu (by show scope.names.lookup y≠_;rw[k];decide)]at q
   exact q
 ·exact e0.hok.fresh (Nat.le_of_lt (x.above y c (PySem.mem_of_lookup h)))
 ·unfold start
  show _=N.length
  rw[List.length_append,List.length_map,List.length_replicate]
  lia
theorem fn_of{CX:CXT}{P:Program}{w:World}{K:PySem.W.Frag}{mg:Str->Option Value}{base:Heap}{k:Nat}{f:Addr}{name qual:Str}{params:Arguments}{body:List Stmt}{scope:Scope}{dV kV doc pm cdv ct oc:Value}{an od:Option Addr}
  {osl:Array (Option Value)}{N ps:List Str}{sp:Sp} (lk:K.lookup f=some ⟨oc,od,.func (PySem.W.fnOf name qual params body scope dV kV doc pm an cdv ct),osl⟩) (hcd:PySem.W.codeIn K cdv qual=true) (S:FnScope N ps scope)
  (len:∀ vs H Q E,sp vs H Q E->vs.length=ps.length)
  (hbody:∀ (A:Around) (outer:List Env) (s:Shared) (H:Hp) (vs:List V) (Q:VK) (E:XK),Room k (A.deeper (envOfC qual scope s.heap.objs.size f cdv))->sp vs H Q E ->
   ∃ t,PSs (cxOf CX P w K mg base N qual scope f cdv A outer s H E) body t/\t { nx:=fun _ H'=>Q .non H',rt:=Q } (start N vs) H) :
  FnOk P w K mg base CX (k+1) f (PySem.W.fnOf name qual params body scope dV kV doc pm an cdv ct) ps sp:=by
 refine⟨len,fun A outer s H args us vs Q E hr e0 hb r hsp=>?_⟩
 have hl:=len _ _ _ _ hsp
 have KX:K.In s.heap:=e0.mod.kin.keeps fun b o e=>(e0.bs b o e).1
 have lim:s.heap.NoLimit:=e0.mod.nolimit.keeps fun b o e=>(e0.bs b o e).1
 have hkind:∀ y∈ps.zip us,scope.names.lookup y.1=some .local\/(scope.names.lookup y.1=some .cell/\((cellsFrom (s.heap.objs.size+1) scope.names []).lookup y.1).isSome=true):=fun⟨n,v⟩ hy=>by
  rcases S.par n (List.of_mem_zip hy).1 with q | q
  ·exact .inl q
  ·exact .inr ⟨q,PySem.W.cellsFrom_some _ _ _ (.inl q)⟩
 refine codeAny_call_function hr.depth (KX _ _ lk) rfl S.co S.gen rfl (PySem.W.codeRec_of KX hcd) (hb _ _ _ _ ?_)
 refine wpAny_newFunctionEnv_cells S.kind hkind fun env he s1 x=>?_
 subst he
 refine⟨lim.keeps x.toInCall.keep,codeAny_func ?_⟩
 obtain⟨t,ht,hq⟩:=hbody A outer s H vs Q E (hr.deeper _) hsp
 have I:Inv (cxOf CX P w K mg base N qual scope f cdv A outer s H E) [] (start N vs) H s1:=inv_start S hr.hd e0 hl r x
 refine wpAny_mono (ht [] s1 (start N vs) H _ I hq) (fun fl s' hs=>?_) fun e s' hs=>hs
 have fin:∀ {σ':St}{H':Hp}{v:V}{u:Value},Inv (cxOf CX P w K mg base N qual scope f cdv A outer s H E) [] σ' H' s'->RelV v u->Q v H'->CE outer P w H s Q u s' :=
  fun {σ' H' v u} J rv q=>⟨v,H',J.os,J.bare,J.base,J.hok,rv,q⟩
 cases fl with
 |ret u =>
  obtain⟨v,σ',H',J,rv,q⟩:=hs
  exact fin J rv q
 |next =>
  obtain⟨σ',H',J,q⟩:=hs
  exact fin (v:=V.non) (u:=Value.none) J rfl q
 |brk =>
  obtain⟨_,_,_,q⟩:=hs
  exact False.elim q
 |cont =>
  obtain⟨_,_,_,q⟩:=hs
  exact False.elim q
open PySem PySem.Spec PyProof.Rows
section
variable{X:Cx}{x:Str}{p pos:Pos}{e:Expr}{es:List Expr}{t:TA}{id T:String}{r:List V->Hp->VK->Prop}
noncomputable def tCB(r:List V->Hp->VK->Prop)(t:TA):TE:=fun σ H Q=>t σ H fun vs H1=>r vs H1 Q
theorem pe_callB(hc:CallR X (.builtin id) r)(hg:Gl X x)(hm:X.mg x=none)(hv:bootBuiltins x=some (.builtin id))(ha:PA X (e :: es) t)(hn:x≠"__name__":=by decide)(hdb:(x ==("__debug__":Str))=false:=by decide)
  (he:starEach (e :: es) X.env=(false,eval e X.env) :: starEach es X.env:=by rfl) (hpl:(backTo pos (starEach es X.env)).any (·.1)=false:=by rfl):PE X (.Call (.Name x p) (e :: es) [] pos) (tCB r t):=by
 intro pins s σ H Q I h
 refine wpAny_Call_Name_kw (ld_blt I hg hm hv ?_ hn hdb)
 exact PyProof.Rows.callWith_builtin1 (thn (ha pos pins s σ H _ I h) fun us s1 ⟨vs,H1,I1,r1,q1⟩=>hc pins s1 σ H1 vs us Q I1 r1 q1) he hpl
theorem pe_callTy(hc:CallR X (.type T) r)(hg:Gl X x)(hm:X.mg x=none)(hv:bootBuiltins x=some (.type T))(ha:PA X (e :: es) t)(hn:x≠"__name__":=by decide)(hdb:(x ==("__debug__":Str))=false:=by decide)
  (he:starEach (e :: es) X.env=(false,eval e X.env) :: starEach es X.env:=by rfl) (hpl:(backTo pos (starEach es X.env)).any (·.1)=false:=by rfl):PE X (.Call (.Name x p) (e :: es) [] pos) (tCB r t):=by
 intro pins s σ H Q I h
 refine wpAny_Call_Name_kw (ld_blt I hg hm hv ?_ hn hdb)
 exact PyProof.Rows.callWith_type1 (thn (ha pos pins s σ H _ I h) fun us s1 ⟨vs,H1,I1,r1,q1⟩=>hc pins s1 σ H1 vs us Q I1 r1 q1) he hpl
end
open PySem PySem.Spec PyProof.Rows
section
variable{κ:Type}[DecidableEq κ]
noncomputable def valV(kvs:List (κ×V))(k:κ):Option V:=(kvs.find? fun kv=>decide (kv.1=k)).map (·.2)
noncomputable def putK(kvs:List (κ×V))(k:κ)(v:V):List (κ×V) :=
 if(kvs.any fun kv=>decide (kv.1=k))=true then kvs.map (fun kv=>if kv.1=k then(kv.1,v)else kv)else kvs++[(k,v)]
theorem valV_nil{k:κ}:valV ([]:List (κ×V)) k=none:=rfl
theorem valV_pos{p:κ×V}{r:List (κ×V)}{k:κ}(e:p.1=k):valV (p :: r) k=some p.2:=by simp[valV,List.find?_cons,e]
theorem valV_neg{p:κ×V}{r:List (κ×V)}{k:κ}(e:¬ p.1=k):valV (p :: r) k=valV r k:=by simp[valV,List.find?_cons,e]
theorem valV_any(k:κ):∀ kvs:List (κ×V),(kvs.any fun kv=>decide (kv.1=k))=(valV kvs k).isSome
 |[]=>rfl
 |p :: r=>by
  rw[List.any_cons]
  by_cases e:p.1=k
  ·simp only[valV_pos e,decide_eq_true e,Bool.true_or,Option.isSome_some]
  ·rw[valV_neg e,decide_eq_false e,Bool.false_or];exact valV_any k r
theorem valV_map(k j:κ)(y:V):∀ kvs:List (κ×V),valV (kvs.map fun kv=>if kv.1=k then(kv.1,y)else kv) j=(valV kvs j).map fun x=>if j=k then y else x
 |[]=>rfl
 |p :: r=>by
  have ih:=valV_map k j y r
  rw[List.map_cons]
  by_cases h:p.1=k
  ·rw[if_pos h]
   by_cases e:p.1=j
   ·rw[valV_pos (p:=(p.1,y)) e,valV_pos e,Option.map_some,if_pos (e.symm.trans h)]
   ·rw[valV_neg (p:=(p.1,y)) e,valV_neg e,ih]
  ·rw[if_neg h]
   by_cases e:p.1=j
   ·rw[valV_pos (p:=p) e,valV_pos e,Option.map_some,if_neg (fun z=>h (e.trans z))]
   ·rw[valV_neg (p:=p) e,valV_neg e,ih]
theorem valV_snoc(k j:κ)(y:V):∀ kvs:List (κ×V),valV kvs k=none->valV (kvs++[(k,y)]) j=if j=k then some y else valV kvs j
 |[],_=>by
  by_cases e:k=j
  ·rw[if_pos e.symm];exact valV_pos (p:=(k,y)) e
  ·rw[if_neg (fun z=>e z.symm)];exact valV_neg (p:=(k,y)) e
 |p :: r,hn=>by
  rw[List.cons_append]
  have hk:¬ p.1=k:=fun z=>by rw[valV_pos z]at hn;cases hn
  rw[valV_neg hk]at hn
  have ih:=valV_snoc k j y r hn
  by_cases e:p.1=j
  ·rw[valV_pos e,valV_pos e,if_neg (fun z=>hk (e.trans z))]
  ·rw[valV_neg e,valV_neg e,ih]
theorem valV_put(kvs:List (κ×V))(k j:κ)(y:V):valV (putK kvs k y) j=if j=k then some y else valV kvs j:=by
 unfold putK
 by_cases a:(kvs.any fun kv=>decide (kv.1=k))=true
 ·rw[if_pos a,valV_map]
  rw[valV_any]at a
  by_cases e:j=k
  ·obtain⟨x,hx⟩:=Option.isSome_iff_exists.mp a
   rw[if_pos e,e,hx,Option.map_some,if_pos rfl]
  ·rw[if_neg e]
   cases valV kvs j with
   |none=>rfl
   |some x=>rw[Option.map_some,if_neg e]
 ·rw[if_neg a]
  refine valV_snoc k j y kvs ?_
  rw[valV_any]at a
  cases q:valV kvs k with
  |none=>rfl
  |some x=>rw[q]at a;exact(a rfl).elim
theorem length_putK(kvs:List (κ×V))(k:κ)(v:V):(putK kvs k v).length<=kvs.length+1:=by
 unfold putK
 split
 ·rw[List.length_map];lia
 ·rw[List.length_append,List.length_cons,List.length_nil];lia
theorem putK_new{kvs:List (κ×V)}{k:κ}(v:V)(h:valV kvs k=none):putK kvs k v=kvs++[(k,v)]:=by
 unfold putK
 rw[valV_any,h]
 exact if_neg (by decide)
theorem RelO.isSome_eq{o:Option V}{u:Option Value}(r:RelO o u):o.isSome=u.isSome:=by
 cases o with
 |none=>cases u with
  |none=>rfl
  |some _=>exact(show False from r).elim
 |some _=>cases u with
  |none=>exact(show False from r).elim
  |some _=>rfl
theorem KV.val{kvs:List (κ×V)}{vs:List (κ×Value)}(r:KV kvs vs)(k:κ):RelO (valV kvs k) (valueAt vs k):=by
 unfold KV at r
 induction r with
 |nil=>exact True.intro
 | @cons p q ps qs h t ih =>
  obtain⟨h1,h2⟩:=h
  by_cases e:p.1=k
  ·have e':q.1=k:=h1.symm.trans e
   have b:valueAt (q :: qs) k=some q.2:=by simp[valueAt,List.find?_cons,e']
   rw[valV_pos e,b];exact h2
  ·have e':¬ q.1=k:=fun z=>e (h1.trans z)
   have b:valueAt (q :: qs) k=valueAt qs k:=by simp[valueAt,List.find?_cons,e']
   rw[valV_neg e,b];exact ih
theorem KV.any{kvs:List (κ×V)}{vs:List (κ×Value)}(r:KV kvs vs)(k:κ):(kvs.any fun kv=>decide (kv.1=k))=vs.any fun kv=>decide (kv.1=k):=by
 unfold KV at r
 induction r with
 |nil=>rfl
 |cons h t ih=>rw[List.any_cons,List.any_cons,ih,h.1]
theorem KV.repl{kvs:List (κ×V)}{vs:List (κ×Value)}(r:KV kvs vs)(k:κ){y:V}{u:Value}(ry:RelV y u) :
  KV (kvs.map fun kv=>if kv.1=k then(kv.1,y)else kv) (vs.map fun kv=>if kv.1=k then(kv.1,u)else kv):=by
 unfold KV at r ⊢
 induction r with
 |nil=>exact .nil
 | @cons p q ps qs h t ih =>
  rw[List.map_cons,List.map_cons]
  refine .cons ?_ ih
  obtain⟨h1,h2⟩:=h
  by_cases e:p.1=k
  ·rw[if_pos e,if_pos (h1.symm.trans e)];exact⟨h1,ry⟩
  ·rw[if_neg e,if_neg (fun z=>e (h1.trans z))];exact⟨h1,h2⟩
theorem KV.put{kvs:List (κ×V)}{vs:List (κ×Value)}(r:KV kvs vs)(k:κ){y:V}{u:Value}(ry:RelV y u):KV (putK kvs k y) (stored vs k u):=by
 unfold putK stored
 rw[r.any k]
 by_cases e:(vs.any fun kv=>decide (kv.1=k))=true
 ·rw[if_pos e,if_pos e];exact r.repl k ry
 ·rw[if_neg e,if_neg e];exact Paired.snoc r ⟨rfl,ry⟩
theorem KV.length{kvs:List (κ×V)}{vs:List (κ×Value)}(r:KV kvs vs):kvs.length=vs.length:=Paired.length r
end
theorem kV_is{P:Program}{w:World}{k:Key}{u:Value}(r:RelV (kV k) u):(mixKind P w).is k u=true:=by
 cases k with
 |inl i=>obtain⟨t,e⟩:=(show ∃ t,u=Value.int i t from r);subst e;exact mixKind_int P w i t
 |inr x=>obtain⟨t,e⟩:=(show ∃ t,u=Value.str x t from r);subst e;exact mixKind_str P w x t
theorem items_are{P:Program}{w:World}:∀ {ks:List Key}{us:List Value},Vals (ks.map kV) us->ItemsAre (mixKind P w) ks us
 |[],_,r=>by rw[List.map_nil]at r;cases r;exact .nil
 |k :: ks,_,r=>by
  rw[List.map_cons]at r
  cases r with
  |cons h t=>exact .cons (kV_is h) (items_are t)
noncomputable abbrev KT(H:Hp):List (List Key×V)->List (List Key×Addr×Value)->Prop:=Paired fun p q=>p.1=q.1/\H q.2.1=some (.tup (p.1.map kV))/\RelV p.2 q.2.2
theorem KT.val{H:Hp}{kvs:List (List Key×V)}{xs:List (List Key×Addr×Value)}(r:KT H kvs xs)(k:List Key):RelO (valV kvs k) ((atKey xs k).map (·.2)):=by
 induction r with
 |nil=>exact True.intro
 | @cons p q ps qs h t ih =>
  obtain⟨h1,_,h2⟩:=h
  by_cases e:p.1=k
  ·have e':q.1=k:=h1.symm.trans e
   have b:atKey (q :: qs) k=some q.2:=by simp[atKey,List.find?_cons,e']
   rw[valV_pos e,b];exact h2
  ·have e':¬ q.1=k:=fun z=>e (h1.trans z)
   have b:atKey (q :: qs) k=atKey qs k:=by simp[atKey,List.find?_cons,e']
   rw[valV_neg e,b];exact ih
theorem KT.repl{H:Hp}{kvs:List (List Key×V)}{xs:List (List Key×Addr×Value)}(r:KT H kvs xs)(k:List Key){y:V}{u:Value}(ry:RelV y u) :
  KT H (kvs.map fun kv=>if kv.1=k then(kv.1,y)else kv) (xs.map (putAt k u)):=by
 induction r with
 |nil=>exact .nil
 | @cons p q ps qs h t ih =>
  rw[List.map_cons,List.map_cons]
  refine .cons ?_ ih
  obtain⟨h1,h2,h3⟩:=h
  unfold putAt
  by_cases e:p.1=k
  ·rw[if_pos e,if_pos (h1.symm.trans e)];exact⟨h1,h2,ry⟩
  ·rw[if_neg e,if_neg (fun z=>e (h1.trans z))];exact⟨h1,h2,h3⟩
theorem KT.put{H:Hp}{kvs:List (List Key×V)}{xs:List (List Key×Addr×Value)}(r:KT H kvs xs)(k:List Key){b:Addr}{y:V}{u:Value}(hb:H b=some (.tup (k.map kV)))(ry:RelV y u) :
  KT H (putK kvs k y) (storedH xs k b u):=by
 have e:(kvs.any fun kv=>decide (kv.1=k))=(atKey xs k).isSome:=by
  rw[valV_any,(r.val k).isSome_eq,Option.isSome_map]
 unfold putK storedH
 rw[e]
 by_cases q:(atKey xs k).isSome=true
 ·rw[if_pos q,if_pos q];exact r.repl k ry
 ·rw[if_neg q,if_neg q];exact Paired.snoc r ⟨rfl,hb,ry⟩
theorem KT.keeps{H H':Hp}{kvs:List (List Key×V)}{xs:List (List Key×Addr×Value)}(r:KT H kvs xs)(ht:∀ b ys,H b=some (.tup ys)->H' b=some (.tup ys)):KT H' kvs xs :=
 Paired.mapP r fun _ _ z=>⟨z.1,ht _ _ z.2.1,z.2.2⟩
section
variable{P:Program}{w:World}{H:Hp}{h:Heap}{a:Addr}
theorem rd_of{u:HO}(ok:HOk P w H h)(e:Rd H a u):ObjOk P w H h a u:=e.ok ok
theorem dk_rd{kvs:List (Key×V)}(ok:HOk P w H h)(e:Rd H a (.dK kvs)):kvs.length<=sizeLine/\(a == sysModules)=false/\∃ vs,KV kvs vs/\h.DictOf (mixKind P w) a vs :=
 show ObjOk P w H h a (.dK kvs)from rd_of ok e
theorem dk_of{kvs:List (Key×V)}(ok:HOk P w H h)(e:H a=some (.dK kvs)):kvs.length<=sizeLine/\(a == sysModules)=false/\∃ vs,KV kvs vs/\h.DictOf (mixKind P w) a vs:=dk_rd ok (.inl e)
theorem key_of{ks:List Key}(ok:HOk P w H h)(e:H a=some (.tup (ks.map kV))):(tupleKind (mixKind P w)).is h ks a:=by
 obtain⟨_,its,r,o,h1,h2,n,h3⟩:=(show ObjOk P w H h a (.tup (ks.map kV))from ok a _ e)
 exact⟨o,its.toArray,n,h1,h2,h3,by simpa using items_are r⟩
theorem dt_rd{kvs:List (List Key×V)}(ok:HOk P w H h)(e:Rd H a (.dT kvs)):kvs.length<=sizeLine/\(a == sysModules)=false /\
  ∃ xs,KT H kvs xs/\h.DictOfH (tupleKind (mixKind P w)) a xs:=by
 obtain⟨z,y,xs,r,o,es,ep,h1,h2,h3,h4,h5⟩:=(show ObjOk P w H h a (.dT kvs)from rd_of ok e)
 refine⟨z,y,xs,r,o,es,ep,h1,h2,h3,h4,fun x hx=>?_,h5⟩
 have all:∀ {l:List (List Key×V)}{m:List (List Key×Addr×Value)},KT H l m->∀ x∈m,(tupleKind (mixKind P w)).is h x.1 x.2.1:=by
  intro l m q
  induction q with
  |nil=>intro x hx;exact nomatch hx
  | @cons p q ps qs hq t ih =>
   intro x hx
   rcases List.mem_cons.mp hx with e | hx
   ·subst e
    exact key_of ok (by rw[<- hq.1];exact hq.2.1)
   ·exact ih x hx
 exact all r x hx
theorem dt_of{kvs:List (List Key×V)}(ok:HOk P w H h)(e:H a=some (.dT kvs)):kvs.length<=sizeLine/\(a == sysModules)=false /\
  ∃ xs,KT H kvs xs/\h.DictOfH (tupleKind (mixKind P w)) a xs:=dt_rd ok (.inl e)
end
noncomputable def DGet(H:Hp)(a:Addr)(y:V)(r:Option V):Prop :=
 (∃ kvs k,Rd H a (.dK kvs)/\y=kV k/\r=valV kvs k)\/∃ kvs k b,Rd H a (.dT kvs)/\y = .ref b/\H b=some (.tup (k.map kV))/\r=valV kvs k
noncomputable def DPut(H:Hp)(a:Addr)(y v:V)(H':Hp):Prop :=
 (∃ kvs k,H a=some (.dK kvs)/\y=kV k/\kvs.length<sizeLine/\H'=upd H a (.dK (putK kvs k v))) \/
 ∃ kvs k b,H a=some (.dT kvs)/\y = .ref b/\H b=some (.tup (k.map kV))/\kvs.length<sizeLine/\H'=upd H a (.dT (putK kvs k v))
theorem DGet.k{H:Hp}{a:Addr}{kvs:List (Key×V)}{k:Key}(e:H a=some (.dK kvs)):DGet H a (kV k) (valV kvs k):=.inl ⟨kvs,k,.inl e,rfl,rfl⟩
theorem DGet.t{H:Hp}{a b:Addr}{kvs:List (List Key×V)}{k:List Key}(e:H a=some (.dT kvs))(eb:H b=some (.tup (k.map kV))):DGet H a (.ref b) (valV kvs k):=.inr ⟨kvs,k,b,.inl e,rfl,eb,rfl⟩
theorem DPut.k{H:Hp}{a:Addr}{kvs:List (Key×V)}{k:Key}{v:V}(e:H a=some (.dK kvs))(hl:kvs.length<sizeLine):DPut H a (kV k) v (upd H a (.dK (putK kvs k v))):=.inl ⟨kvs,k,e,rfl,hl,rfl⟩
theorem DPut.t{H:Hp}{a b:Addr}{kvs:List (List Key×V)}{k:List Key}{v:V}(e:H a=some (.dT kvs))(eb:H b=some (.tup (k.map kV)))(hl:kvs.length<sizeLine) :
  DPut H a (.ref b) v (upd H a (.dT (putK kvs k v))):=.inr ⟨kvs,k,b,e,rfl,eb,hl,rfl⟩
section
variable{X:Cx}{pins:List (Addr×Obj)}{σ:St}{H:Hp}{s:Shared}{a:Addr}{y v:V}{u r:Value}{o:Option V}{A:Around}{E:Value->Shared->Prop}
theorem Inv.big(I:Inv X pins σ H s):sysModules<s.heap.objs.size:=by
 have h:mainGlobals<s.heap.objs.size:=(I.mod.glob.keeps I.bk).lt
 exact Nat.lt_trans (by decide) h
theorem d_getItem{Q:Value->Shared->Prop}(hu:A.units+1<cLine)(I:Inv X pins σ H s)(g:DGet H a y (some v))(ry:RelV y u)(h:∀ w' s',Inv X pins σ H s'->RelV v w'->Q w' s') :
  wpAny (model X.prog X.w) A (getItem (.ref a) u) Q E s:=by
 rcases g with⟨kvs,k,e,ey,l⟩ |⟨kvs,k,b,e,ey,eb,l⟩
 ·subst ey
  obtain⟨z,hd,vs,rel,dd⟩:=dk_rd I.hok e
  obtain⟨w',hw,rw'⟩:=RelO.some_of (v:=v) (o:=valueAt vs k) (by rw[l];exact rel.val k)
  exact wpAny_getItem_of (kV_is ry) dd.mapOf hw (h w' _ (I.tok _) rw')
 ·subst ey
  cases(show u=Value.ref b from ry)
  obtain⟨z,hd,xs,rel,dd⟩:=dt_rd I.hok e
  obtain⟨w',hw,rw'⟩:=RelO.some_of (v:=v) (o:=(atKey xs k).map (·.2)) (by rw[l];exact rel.val k)
  obtain⟨p,hp,hp2⟩:=Option.map_eq_some_iff.mp hw
  refine wpAny_getItem_heap (tupleKind_room_in1 hu) (key_of I.hok eb) dd hp ?_
  rw[hp2]
  exact h w' _ (I.tok _) rw'
theorem d_notIn{Q:Value->Shared->Prop}(hu:A.units+1<cLine)(I:Inv X pins σ H s)(g:DGet H a y o)(ry:RelV y u)(h:∀ s',Inv X pins σ H s'->Q (.bool (!o.isSome)) s') :
  wpAny (model X.prog X.w) A (compareOp .NotIn u (.ref a)) Q E s:=by
 rcases g with⟨kvs,k,e,ey,l⟩ |⟨kvs,k,b,e,ey,eb,l⟩
 ·subst ey
  obtain⟨z,hd,vs,rel,dd⟩:=dk_rd I.hok e
  refine wpAny_notIn_of (kV_is ry) hd dd.mapOf ?_
  rw[<-(rel.val k).isSome_eq,<- l]
  exact h _ (I.tok _)
 ·subst ey
  cases(show u=Value.ref b from ry)
  obtain⟨z,hd,xs,rel,dd⟩:=dt_rd I.hok e
  refine wpAny_notIn_heap (tupleKind_room_in1 hu) (key_of I.hok eb) hd dd ?_
  have q:=(rel.val k).isSome_eq
  rw[Option.isSome_map]at q
  rw[<- q,<- l]
  exact h _ (I.tok _)
theorem d_write{h':Heap}{t':Nat}{ob:HO}(I:Inv X pins σ H s)(mu:Mut (H a))(hs:Heap.SameBut a s.heap h')(he:∃ q,h'.get? a=some q)(new:ObjOk X.prog X.w (upd H a ob) h' a ob) :
  Inv X pins σ (upd H a ob) { s with heap:=h',toks:=t' } :=
 I.write (x:=a) (e:=a) mu (.inl rfl) (fun b q hb z=>(hs.2 b hb).trans z) he new
theorem dk_new{P:Program}{w:World}{H':Hp}{h':Heap}{kvs:List (Key×V)}{vs:List (Key×Value)}(z:kvs.length<=sizeLine)(hd:(a == sysModules)=false)(rel:KV kvs vs)(dd:h'.DictOf (mixKind P w) a vs) :
  ObjOk P w H' h' a (.dK kvs):=⟨z,hd,vs,rel,dd⟩
theorem d_setItem{H':Hp}{Q:Unit->Shared->Prop}(hu:A.units+1<cLine)(I:Inv X pins σ H s)(g:DPut H a y v H')(ry:RelV y u)(rv:RelV v r)(h:∀ s',Inv X pins σ H' s'->Q () s') :
  wpAny (model X.prog X.w) A (setItem (.ref a) u r) Q E s:=by
 rcases g with⟨kvs,k,e,ey,l,eH⟩ |⟨kvs,k,b,e,ey,eb,l,eH⟩
 ·subst ey eH
  obtain⟨z,hd,vs,rel,dd⟩:=dk_of I.hok e
  have hz:vs.length<=sizeLine:=by rw[<- rel.length];exact z
  have hl:(putK kvs k v).length<=sizeLine:=by have:=length_putK kvs k v;lia
  refine wpAny_setItem_pairs (hsz:=hz) (kV_is ry) dd fun h' dd' hs=>h _ ?_
  have he:∃ q,h'.get? a=some q:=let ⟨q,_,_,hq,_⟩:=dd';⟨q,hq⟩
  exact d_write I (by rw[e];exact True.intro) hs he (dk_new hl hd (rel.put k rv) dd')
 ·subst ey eH
  cases(show u=Value.ref b from ry)
  obtain⟨z,hd,xs,rel,dd⟩:=dt_of I.hok e
  have hz:xs.length<=sizeLine:=by rw[<- Paired.length rel];exact z
  have hl:(putK kvs k v).length<=sizeLine:=by have:=length_putK kvs k v;lia
  refine wpAny_setItem_heap (hsz:=hz) (tupleKind_room_in1 hu) (key_of I.hok eb) dd fun h' dd' hs=>h _ ?_
  obtain⟨q,es,ep,hq,h2,h3,h4,_,h5⟩:=dd'
  refine d_write I (by rw[e];exact True.intro) hs ⟨q,hq⟩ ⟨hl,hd,_,(rel.put k eb rv).keeps fun c ys ec=>?_,q,es,ep,hq,h2,h3,h4,h5⟩
  rw[upd_ne (ne_of ec e (fun z=>nomatch z))]
  exact ec
end
noncomputable def NoSl(i:Expr):Prop:=∀ ov iv,subscripted i false ov iv=operate [ov,iv] (getItem ov iv)
theorem subD_of{prog:Program}{w:World}{A:Around}{E:Value->Shared->Prop}{s:Shared}{env:Env}{value slice:Expr}{pos:Pos}{T id:String}{Q:Value->Shared->Prop}
  (hl:typeLookup (.type T) "__getitem__" = pure (some (.builtin id))) (hs:NoSl slice)
  (h:wpAny (model prog w) A (eval value env) (fun o s₁=>wpAny (model prog w) A (eval slice env) (fun i s₂=>s₂.TypeIs o T/\wpAny (model prog w) A (getItem o i) Q E s₂) E s₁) E s) :
  wpAny (model prog w) A (eval (.Subscript value slice pos) env) Q E s:=by
 refine Subscript_ (wpAny_mono h (fun o s₁ h₁=>wpAny_mono h₁ (fun i s₂ h₂=>?_) fun _ _ x=>x) fun _ _ x=>x)
 obtain⟨hT,h₂⟩:=h₂
 unfold subscriptTail
 refine wpAny_bind ?_
 rw[getitemInPython_of_ne hT.not_modules]
 refine wpAny_bind (wpAny_specialOf hT hl ?_)
 have fin:wpAny (model prog w) A (subscripted slice false o i) (fun r s₃=>wpAny (model prog w) A (letTemporaryGo value o r >>= fun _=>pure r) Q E s₃) E s₂:=by
  rw[hs o i]
  exact wpAny_operating (wpAny_mono h₂ (fun r s₃ h₃=>wpAny_bind (wpAny_letTemporaryGo (wpAny_pure h₃))) fun _ _ x=>x)
 first
  |exact wpAny_pure (wpAny_bind fin)
  |exact wpAny_bind (wpAny_pure (wpAny_bind fin))
  |exact wpAny_bind fin
theorem dict_typeIs{X:Cx}{pins:List (Addr×Obj)}{σ:St}{H:Hp}{s:Shared}{a:Addr}{y:V}{o:Option V}(I:Inv X pins σ H s)(g:DGet H a y o):s.TypeIs (.ref a) "dict":=by
 rcases g with⟨kvs,k,e,_,_⟩ |⟨kvs,k,b,e,_,_,_⟩
 ·obtain⟨_,_,vs,_,dd⟩:=dk_rd I.hok e
  exact dd.typeIs
 ·obtain⟨_,_,xs,_,dd⟩:=dt_rd I.hok e
  exact dd.typeIs
noncomputable def tDGet(td ty:TE):TE:=fun σ H Q=>td σ H fun x H1=>ty σ H1 fun y H2=>∃ a v,x = .ref a/\DGet H2 a y (some v)/\Q v H2
noncomputable def tDNotIn(ty td:TE):TE:=fun σ H Q=>ty σ H fun y H1=>td σ H1 fun x H2=>∃ a o,x = .ref a/\DGet H2 a y o/\Q (.bl (!o.isSome)) H2
noncomputable def sDPut(td ty tv:TE):TS:=fun D σ H=>tv σ H fun v H1=>td σ H1 fun x H2=>ty σ H2 fun y H3=>∃ a H4,x = .ref a/\DPut H3 a y v H4/\D.nx σ H4
section
variable{X:Cx}{o i e value:Expr}{pos pos' tpos:Pos}{td ty tv:TE}
theorem pe_dget(hu:X.A.units+1<cLine)(ho:PE X o td)(hi:PE X i ty)(hs:NoSl i):PE X (.Subscript o i pos) (tDGet td ty):=by
 intro pins s σ H Q I h
 refine subD_of PySem.F.slot_dict_getitem.lookup hs (thn (ho pins s σ H _ I h) fun u s1 ⟨x,H1,I1,rx,q1⟩=>thn (hi pins s1 σ H1 _ I1 q1) fun iv s2 ⟨y,H2,I2,ry,a,v,ex,g,q2⟩=>?_)
 subst ex
 obtain rfl:u=Value.ref a:=rx
 exact⟨dict_typeIs I2 g,d_getItem hu I2 g ry fun w' s3 I3 rw'=>⟨v,H2,I3,rw',q2⟩⟩
theorem pc_dnotin(hu:X.A.units+1<cLine)(hi:PE X i ty)(ho:PE X o td):PC X .NotIn i o (tDNotIn ty td):=by
 intro pins s σ H Q I h
 refine thn (hi pins s σ H _ I h) fun iv s1 ⟨y,H1,I1,ry,q1⟩=>thn (ho pins s1 σ H1 _ I1 q1) fun u s2 ⟨x,H2,I2,rx,a,ov,ex,g,q2⟩=>?_
 subst ex
 obtain rfl:u=Value.ref a:=rx
 exact d_notIn hu I2 g ry fun s3 I3=>⟨.bl (!ov.isSome),H2,I3,rfl,q2⟩
theorem ps_dput(hu:X.A.units+1<cLine)(ho:PE X o td)(hi:PE X i ty)(hv:PE X value tv)(hs:swapsWith value (some (.Subscript o i pos')) pos.line X.env=pure false) :
  PS X (.Assign [.Subscript o i pos'] value pos) (sDPut td ty tv):=by
 intro pins s σ H D I h
 refine wpAny_Assign_Subscript (thn (hv pins s σ H _ I h) fun r s1 ⟨v,H1,I1,rv,q1⟩=>thn (ho pins s1 σ H1 _ I1 q1) fun u s2 ⟨x,H2,I2,rx,q2⟩=>thn (hi pins s2 σ H2 _ I2 q2) fun iv s3 ⟨y,H3,I3,ry,a,H4,ex,g,q3⟩=>?_) hs
 subst ex
 obtain rfl:u=Value.ref a:=rx
 exact d_setItem hu I3 g ry rv fun s4 I4=>⟨σ,H4,I4,q3⟩
end
theorem dt_empty{P:Program}{w:World}{H:Hp}(h:Heap)(hb:sysModules<h.objs.size):ObjOk P w H (h.push { cls:=.type "dict",data:=.dict #[] }) h.objs.size (.dT []) :=
 ⟨Nat.zero_le _,beq_eq_false_iff_ne.mpr (Ne.symm (Nat.ne_of_lt hb)),[],.nil,_,#[],0,Heap.get?_push_size _ rfl,⟨rfl,rfl,rfl⟩,rfl,rfl,List.nodup_nil⟩
noncomputable def tDNewT:TE:=fun _ H Q=>∀ p,H p=none->Q (.ref p) (upd H p (.dT []))
section
variable{X:Cx}{pos:Pos}
theorem pe_dnewT:PE X (.Dict [] [] pos) tDNewT:=fun pins s σ H Q I h =>
 wpAny_Dict_empty ⟨.ref s.heap.objs.size,_,I.laid (a:=s.heap.objs.size) (o:=.dT []) (t':=s.toks) (fun _ _ q=>Heap.get?_push_of_some _ q) (Nat.le_refl _) (dt_empty s.heap I.big),rfl,h _ (I.hok.fresh (Nat.le_refl _))⟩
end
end L2
namespace HT
open PySem PyProof.Rows
section
open PySem.SeqAt
open PySem.AutoSeq1 (wpAny_loadPart')
open PySem.MeetsSeq PySem.MeetsSeq2 PySem.MeetsSeq3
end
section
variable{prog:Program}{w:World}{A:Around}{E:Value->Shared->Prop}{s:Shared}
theorem cat_tup{t b:Addr}{vs ws:List Value}{Q:Value->Shared->Prop}(ht:IsTup s.heap t vs.toArray)(hb:IsTup s.heap b ws.toArray)(hv:vs≠[])
  (h1:ws=[]->Q (.ref t) s) (h2:ws≠[]->Q (.ref s.heap.objs.size) { s with heap:=s.heap.push { cls:=.type "tuple",data:=.seq (vs++ws).toArray } })
  (hsz:vs.length+ws.length<=sizeLine):wpAny (model prog w) A (binaryOp .Add (.ref t) (.ref b)) Q E s:=by
 obtain⟨⟨cls,dd,data,sl⟩,ho,hc,n,hd⟩:=id ht
 obtain⟨⟨cls2,dd2,data2,sl2⟩,ho2,hc2,n2,hd2⟩:=id hb
 simp only at hc hd hc2 hd2
 subst hc hd hc2 hd2
 have e:vs.toArray++ws.toArray=(vs++ws).toArray:=by simp
 by_cases hw:ws=[]
 ·exact concat_meets ⟨_,ho,rfl⟩ ⟨_,ho2,rfl⟩ noFill_tuple_add seq_tuple_add PySem.F.slot_tuple_add PySem.F.entry_tuple_add (PySem.F.args_tuple_add_2 _ _)
   (tuple_addW1 t b vs.toArray ws.toArray n n2 dd dd2 sl sl2 (by simpa using hv) (by simp[hw])) ⟨ho,ho2,h1 hw⟩
 ·refine concat_meets ⟨_,ho,rfl⟩ ⟨_,ho2,rfl⟩ noFill_tuple_add seq_tuple_add PySem.F.slot_tuple_add PySem.F.entry_tuple_add (PySem.F.args_tuple_add_2 _ _)
   (tuple_addW2 t b vs.toArray ws.toArray n n2 dd dd2 sl sl2 (by simpa using hv) (by simpa using hw) (by rw[List.size_toArray,List.size_toArray];exact hsz)) ⟨ho,ho2,?_⟩
  rw[e]
  exact h2 hw
noncomputable def sIx(n d:Nat):Option Int->Nat
 |none=>d
 |some v=>if v<0 then(v+(n:Int)).toNat else min v.toNat n
theorem sIx_none(n d:Nat):sIx n d none=d:=rfl
theorem sIx_nat(n d k:Nat):sIx n d (some (k:Int))=min k n:=by
 show(if(k:Int)<0 then((k:Int)+(n:Int)).toNat else min (k:Int).toNat n)=min k n
 rw[if_neg (by lia),Int.toNat_natCast]
theorem sIx_le(n d:Nat)(hd:d<=n)(o:Option Int):sIx n d o<=n:=by
 cases o with
 |none=>exact hd
 |some v =>
  show(if v<0 then(v+(n:Int)).toNat else min v.toNat n)<=n
  by_cases hv:v<0
  ·rw[if_pos hv];lia
  ·rw[if_neg hv];exact Nat.min_le_right _ _
theorem clip_eq(v:Int)(n d:Nat):(if v<0 then max (v+(n:Int)) 0 else min v (n:Int))=((sIx n d (some v):Nat):Int):=by
 show(if v<0 then max (v+(n:Int)) 0 else min v (n:Int))=(((if v<0 then(v+(n:Int)).toNat else min v.toNat n):Nat):Int)
 by_cases hv:v<0
 ·simp only[if_pos hv];lia
 ·simp only[if_neg hv];lia
theorem adjust_gen(lo hi:Option Int)(n:Nat):Builtin.Slice.sliceAdjust lo hi 1 (n:Int)=(((sIx n 0 lo:Nat):Int),((sIx n n hi:Nat):Int)):=by
 have h1:¬((1:Int)<0):=by lia
 unfold Builtin.Slice.sliceAdjust
 simp only[h1,if_false]
 refine Prod.ext ?_ ?_
 ·cases lo with
  |none=>rfl
  |some v=>exact clip_eq v n 0
 ·cases hi with
  |none=>rfl
  |some v=>exact clip_eq v n n
theorem places_gen(i j:Nat):Builtin.Slice.slicePlaces (i:Int) (j:Int) 1=j-i:=by
 unfold Builtin.Slice.slicePlaces
 have h1:(1:Int) > 0:=by lia
 simp only[h1,if_true,Int.ediv_one]
 split <;> lia
theorem slicePart_{v:Value}{o:Option Int}{Q:Option Int->Shared->Prop}(p:IsPart v o)(h:Q o s):wpAny (model prog w) A (Builtin.Slice.slicePartIndex v) Q E s:=by
 cases p with
 |none=>exact slicePart_none h
 |int i t=>exact slicePart_int h
theorem sliceApplied_gen{sl:Addr}{vl vu:Value}{lo hi:Option Int}{n:Nat}{Q:Int×Int×Nat->Shared->Prop}(hs:s.heap.IsSliceOf sl vl vu .none)(pl:IsPart vl lo)(pu:IsPart vu hi)
  (h:Q (((sIx n 0 lo:Nat):Int),1,sIx n n hi-sIx n 0 lo) s):wpAny (model prog w) A (Builtin.Slice.sliceApplied (.ref sl) (pure (n:Int))) Q E s:=by
 obtain⟨os,hos,hcs,hds⟩:=id hs
 unfold Builtin.Slice.sliceApplied Builtin.Slice.sliceFields
 refine wpAny_bind (wpAny_bind (wpAny_field hos hds (x:=vl) rfl (wpAny_bind (wpAny_field hos hds (x:=vu) rfl (wpAny_bind (wpAny_field hos hds (x:=.none) rfl (wpAny_pure ?_)))))))
 refine wpAny_bind (slicePart_none ?_)
 show wpAny _ _ (if((1:Int) == 0)=true then _ else _) _ _ s
 rw[if_neg (by decide)]
 refine wpAny_bind (slicePart_ pl (wpAny_bind (slicePart_ pu (wpAny_bind (wpAny_pure ?_)))))
 show wpAny _ _ (match Builtin.Slice.sliceAdjust lo hi 1 (n:Int)with |(lo,hi)=>pure (lo,(1:Int),Builtin.Slice.slicePlaces lo hi 1)) _ _ s
 rw[adjust_gen lo hi n]
 show wpAny _ _ (pure (((sIx n 0 lo:Nat):Int),(1:Int),Builtin.Slice.slicePlaces ((sIx n 0 lo:Nat):Int) ((sIx n n hi:Nat):Int) 1)) _ _ s
 rw[places_gen]
 exact wpAny_pure h
theorem pick_gen(xs:Array Value)(i k:Nat):((List.range k).filterMap fun(m:Nat)=>xs[((i:Int)+(m:Int) * 1).toNat]?).toArray=((xs.toList.drop i).take k).toArray:=by
 have e:(fun(m:Nat)=>xs[((i:Int)+(m:Int) * 1).toNat]?)=fun m=>xs[i+m]?:=by
  funext m
  have:((i:Int)+(m:Int) * 1).toNat=i+m:=by lia
  rw[this]
 rw[e]
 have:=pick_run xs i k
 rw[List.filterMap_map]at this
 have e2:((fun x=>xs[x]?) ∘ fun x=>i+x)=fun m=>xs[i+m]?:=rfl
 rw[e2]at this
 rw[this]
theorem getItem_tuple_cut{t sl:Addr}{items:Array Value}{vl vu:Value}{lo hi:Option Int}{Q:Value->Shared->Prop}(ht:IsTup s.heap t items)(hs:s.heap.IsSliceOf sl vl vu .none)(pl:IsPart vl lo)(pu:IsPart vu hi)
  (hw:¬(sIx items.size 0 lo=0/\sIx items.size items.size hi=items.size))
  (h:Q (.ref s.heap.objs.size) { s with heap:=s.heap.push { cls:=.type "tuple",data:=.seq ((items.toList.drop (sIx items.size 0 lo)).take (sIx items.size items.size hi-sIx items.size 0 lo)).toArray } })
  (hsz:items.size<=sizeLine):wpAny (model prog w) A (getItem (.ref t) (.ref sl)) Q E s:=by
 have htake:sizeOk (.seq ((items.toList.drop (sIx items.size 0 lo)).take (sIx items.size items.size hi-sIx items.size 0 lo)).toArray):=by
  show((items.toList.drop (sIx items.size 0 lo)).take (sIx items.size items.size hi-sIx items.size 0 lo)).toArray.size<=sizeLine
  rw[List.size_toArray,List.length_take,List.length_drop,Array.length_toList]
  omega
 have hj:sIx items.size items.size hi<=items.size:=sIx_le _ _ (Nat.le_refl _) hi
 obtain⟨os,hos,hcs,hds⟩:=id hs
 have hTs:s.TypeIs (.ref sl) "slice":=⟨os,hos,hcs⟩
 unfold getItem
 try with_reducible refine wpAny_holding ?_
 first | refine wpAny_bind (wpAny_pure ?_) | skip
 refine wpAny_bind (wpAny_sequenceKey ht.typeIs (by decide) ?_)
 refine wpAny_bind (wpAny_callSpecial?_slot (name:=Str.ofString "__getitem__") ht.typeIs PyProof.Rows.slot_tuple_getitem
  (wpAny_call_entry PyProof.Rows.slot_tuple_getitem ht.typeIs entry_tuple_getitem ?_ (args_tuple_getitem _ _)))
 show wpAny _ _ (Builtin.Tuple.tupleItemsOf (.ref t) >>= _) _ _ s
 refine wpAny_bind (tupleItemsOf_ ht ?_)
 refine wpAny_bind (wpAny_typeOf hTs ?_)
 rw[if_pos (by decide)]
 refine wpAny_bind (sliceApplied_gen hs pl pu ?_)
 have hno:¬((((sIx items.size 0 lo:Nat):Int) == 0 && (1:Int) == 1 && (sIx items.size items.size hi-sIx items.size 0 lo) == items.size)=true):=by
  intro q
  rw[Bool.and_eq_true,Bool.and_eq_true]at q
  have q1:((sIx items.size 0 lo:Nat):Int)=0:=eq_of_beq q.1.1
  have q2:sIx items.size items.size hi-sIx items.size 0 lo=items.size:=eq_of_beq q.2
  exact hw ⟨by lia,by omega⟩
 show wpAny _ _ (if(((sIx items.size 0 lo:Nat):Int) == 0 && (1:Int) == 1 && (sIx items.size items.size hi-sIx items.size 0 lo) == items.size)=true then _ else _) _ _ s
 rw[if_neg hno,pick_gen]
 first
  |exact wpAny_bind (m:=Builtin.Tuple.tupleExact _) (wpAny_newObj_type (wpAny_pure ⟨_,rfl,wpAny_pure h⟩) htake)
  |exact wpAny_bind (m:=Builtin.Tuple.tupleExact _) (wpAny_newObj_type (wpAny_bind (wpAny_pure (wpAny_pure ⟨_,rfl,wpAny_pure h⟩))) htake)
  |exact wpAny_bind (wpAny_bind (m:=Builtin.Tuple.tupleExact _) (wpAny_newObj_type (wpAny_pure (wpAny_pure ⟨_,rfl,wpAny_pure h⟩)) htake))
  |exact wpAny_bind (wpAny_bind (m:=Builtin.Tuple.tupleExact _) (wpAny_newObj_type (wpAny_pure ⟨_,rfl,wpAny_pure h⟩) htake))
end
end HT
namespace L2
open PySem PySem.Spec PyProof.Rows
noncomputable abbrev TO:=St->Hp->(Option Int->Hp->Prop)->Prop
noncomputable def PO(X:Cx)(e:Option Expr)(t:TO):Prop :=
 ∀ (pins:List (Addr×Obj)) (s:Shared) (σ:St) (H:Hp) (Q:Option Int->Hp->Prop),Inv X pins σ H s->t σ H Q ->
  wpAny (model X.prog X.w) X.A (evalPart e X.env) (fun u s'=>∃ o H',Inv X pins σ H' s'/\IsPart u o/\Q o H') X.xe s
noncomputable def tNoPart:TO:=fun _ H Q=>Q none H
noncomputable def tPart(t:TE):TO:=fun σ H Q=>t σ H fun x H1=>∃ i,x = .int i/\Q (some i) H1
theorem intsAre_of{ns:List Int}:∀ {us:List Value},Vals (ns.map V.int) us->IntsAre us ns:=by
 induction ns with
 |nil=>intro us r;rw[List.map_nil]at r;cases r;exact .nil
 |cons n ns ih =>
  intro us r
  rw[List.map_cons]at r
  cases r with
  |cons r1 r2 =>
   obtain⟨t,e⟩:=r1
   subst e
   exact .cons n t (ih r2)
section
variable{X:Cx}{e:Expr}{te:TE}{lo hi:Option Expr}{tl th:TO}{pos p2:Pos}
theorem po_none:PO X none tNoPart:=by
 intro pins s σ H Q I h
 rw[evalPart_none]
 exact wpAny_pure ⟨none,H,I,.none,h⟩
theorem po_some(h:PE X e te):PO X (some e) (tPart te):=by
 intro pins s σ H Q I hw
 rw[evalPart_some]
 refine thn (h pins s σ H _ I hw) fun u s1 ⟨x,H1,I1,r1,q1⟩=>?_
 obtain⟨i,rfl,q⟩:=q1
 obtain⟨t,rfl⟩:=r1
 exact⟨some i,H1,I1,.int i t,q⟩
noncomputable def SlR(X:Cx)(r:V->Option Int->Option Int->Hp->VK->Prop):Prop :=
 ∀ (pins:List (Addr×Obj)) (s:Shared) (σ:St) (H:Hp) (x:V) (v vl vu:Value) (lo hi:Option Int) (sl:Addr) (Q:VK),Inv X pins σ H s->RelV x v->s.heap.IsSliceOf sl vl vu .none->IsPart vl lo->IsPart vu hi->r x lo hi H Q ->
  ∃ T id,typeLookup (.type T) "__getitem__" = pure (some (.builtin id))/\s.TypeIs v T/\wpAny (model X.prog X.w) X.A (getItem v (.ref sl)) (EP X pins σ Q) X.xe s
noncomputable def tSl(r:V->Option Int->Option Int->Hp->VK->Prop)(te:TE)(tl th:TO):TE:=fun σ H Q=>te σ H fun x H1=>tl σ H1 fun l H2=>th σ H2 fun u H3=>r x l u H3 Q
theorem pe_slice{r:V->Option Int->Option Int->Hp->VK->Prop}(hr:SlR X r)(he:PE X e te)(hl:PO X lo tl)(hu:PO X hi th):PE X (.Subscript e (.Slice lo hi none p2) pos) (tSl r te tl th):=by
 intro pins s σ H Q I h
 refine Subscript_ (thn (he pins s σ H _ I h) fun v s1 ⟨x,H1,I1,r1,q1⟩=>?_)
 refine wpAny_Slice (thn (hl pins s1 σ H1 _ I1 q1) fun vl s2 ⟨l,H2,I2,pl,q2⟩=>thn (hu pins s2 σ H2 _ I2 q2) fun vu s3 ⟨u,H3,I3,pu,q3⟩=>?_)
 rw[evalPart_none]
 refine wpAny_pure ?_
 have I4:Inv X pins σ H3 { s3 with heap:=s3.heap.push { cls:=.type "slice",data:=.fields #[vl,vu,.none] } }:=I3.kept (t':=s3.toks) fun b ob q=>Heap.get?_push_of_some _ q
 obtain⟨T,id,hT,ht,hg⟩:=hr pins { s3 with heap:=s3.heap.push { cls:=.type "slice",data:=.fields #[vl,vu,.none] } } σ H3 x v vl vu l u s3.heap.objs.size Q I4 r1 (Heap.IsSliceOf.new ..) pl pu q3
 show wpAny (model X.prog X.w) X.A (subscriptTail e (.Slice lo hi none p2) v (.ref s3.heap.objs.size)) (EP X pins σ Q) X.xe { s3 with heap:=s3.heap.push { cls:=.type "slice",data:=.fields #[vl,vu,.none] } }
 exact tail_any (ops:=[.ref s3.heap.objs.size,v]) ht hT hg (by with_unfolding_all rfl)
noncomputable def cutV(xs:List V)(lo hi:Option Int):List V:=(xs.drop (HT.sIx xs.length 0 lo)).take (HT.sIx xs.length xs.length hi-HT.sIx xs.length 0 lo)
theorem cutV_length(xs:List V)(lo hi:Option Int):(cutV xs lo hi).length<=xs.length:=by
 unfold cutV
 rw[List.length_take,List.length_drop]
 omega
inductive rSlTI(K:PySem.W.Frag)(x:V)(lo:Option Int)(hi:Option Int)(H:Hp)(Q:VK):Prop where
 |mk (a:_) (xs:_) (h1:x = .ref a) (h2:SqT K H a xs) (h3:¬(HT.sIx xs.length 0 lo=0/\HT.sIx xs.length xs.length hi=xs.length)) (h4:∀ p,H p=none->Q (.ref p) (upd H p (.tup (cutV xs lo hi))))
noncomputable def rSlT(K:PySem.W.Frag):V->Option Int->Option Int->Hp->VK->Prop:=fun x lo hi H Q=>rSlTI K x lo hi H Q
theorem sl_tup:SlR X (rSlT X.K):=by
 intro pins s σ H x v vl vu lo hi sl Q I rx hs pl pu h
 obtain⟨a,xs,rfl,hx,hw,q⟩:=h
 cases rx
 obtain⟨its,r,ht,hz⟩:=I.tuple hx
 have hlen:its.toArray.size=xs.length:=by rw[List.size_toArray];exact r.length.symm
 refine⟨"tuple",_,PyProof.Rows.slot_tuple_getitem.lookup,ht.typeIs,?_⟩
 refine HT.getItem_tuple_cut ht hs pl pu (by rw[hlen];exact hw) ?_ (by rw[hlen];exact hz)
 rw[hlen]
 refine⟨.ref s.heap.objs.size,_,I.laid (t':=s.toks) (o:=.tup (cutV xs lo hi)) (fun b ob q=>Heap.get?_push_of_some _ q) (Nat.le_refl _) ?_,rfl,q _ (I.hok.fresh (Nat.le_refl _))⟩
 exact⟨Nat.le_trans (cutV_length xs lo hi) hz,_,(r.drop (HT.sIx xs.length 0 lo)).take (HT.sIx xs.length xs.length hi-HT.sIx xs.length 0 lo),IsTup.new _ _⟩
noncomputable def rCatT(K:PySem.W.Frag):R2:=fun x y H Q=>∃ a b xs ys,x = .ref a/\y = .ref b/\SqT K H a xs/\SqT K H b ys/\xs≠[]/\xs.length+ys.length<=sizeLine /\
 (ys=[]->Q (.ref a) H)/\(ys≠[]->∀ p,H p=none->Q (.ref p) (upd H p (.tup (xs++ys))))
theorem Vals.nil_iff{xs:List V}{us:List Value}(r:Vals xs us):us=[]↔xs=[]:=by
 cases r with
 |nil=>simp
 |cons _ _=>simp
theorem op_catT:OpR X (binaryOp .Add) (rCatT X.K):=by
 intro pins s σ H x y v u Q I rx ry h
 obtain⟨a,b,xs,ys,rfl,rfl,ha,hb,hx,hz,q1,q2⟩:=h
 cases rx
 cases ry
 obtain⟨its,r1,p1,_⟩:=I.tuple ha
 obtain⟨its2,r2,p2,_⟩:=I.tuple hb
 refine HT.cat_tup p1 p2 (fun z=>hx (r1.nil_iff.mp z)) (fun z=>⟨.ref a,H,I,rfl,q1 (r2.nil_iff.mp z)⟩) (fun z=>?_) (by rw[<- r1.length,<- r2.length];exact hz)
 refine⟨.ref s.heap.objs.size,_,I.laid (t':=s.toks) (o:=.tup (xs++ys)) (fun b ob q=>Heap.get?_push_of_some _ q) (Nat.le_refl _) ?_,rfl,q2 (fun w=>z (r2.nil_iff.mpr w)) _ (I.hok.fresh (Nat.le_refl _))⟩
 exact⟨by rw[List.length_append];exact hz,_,r1.append r2,IsTup.new _ _⟩
end
open PySem PySem.Spec PyProof.Rows
noncomputable def ixN(n:Nat)(i:Int):Option Nat:=if 0<=i then(if i<n then some i.toNat else none)else if -(n:Int)<=i then some (i+n).toNat else none
noncomputable def atI{α:Type}(xs:List α)(i:Int):Option α:=(ixN xs.length i).bind fun j=>xs[j]?
theorem ixN_seq{n:Nat}{i:Int}{j:Nat}(h:ixN n i=some j):seqIndex? i n=some j/\j<n/\-(n:Int)<=i/\i<n:=by
 unfold ixN at h
 by_cases h0:0<=i
 ·rw[if_pos h0]at h
  by_cases h1:i<n
  ·rw[if_pos h1]at h
   have e:i.toNat=j:=Option.some.inj h
   exact⟨by rw[seqIndex_of h0 h1,e],by omega,by lia,h1⟩
  ·rw[if_neg h1]at h;cases h
 ·rw[if_neg h0]at h
  by_cases h1:-(n:Int)<=i
  ·rw[if_pos h1]at h
   have e:(i+n).toNat=j:=Option.some.inj h
   exact⟨by rw[seqIndex_neg (by lia) h1,e],by lia,h1,by lia⟩
  ·rw[if_neg h1]at h;cases h
theorem atI_get{α:Type}{xs:List α}{i:Int}{v:α}(h:atI xs i=some v):∃ j,seqIndex? i xs.length=some j/\xs[j]?=some v/\j<xs.length/\-(xs.length:Int)<=i/\i<xs.length:=by
 unfold atI at h
 cases e:ixN xs.length i with
 |none=>rw[e]at h;cases h
 |some j =>
  rw[e]at h
  obtain⟨h1,h2,h3,h4⟩:=ixN_seq e
  exact⟨j,h1,h,h2,h3,h4⟩
theorem atI_nat{α:Type}{xs:List α}{j:Nat}{v:α}(h:xs[j]?=some v):atI xs (j:Int)=some v:=by
 have hj:j<xs.length:=(List.getElem?_eq_some_iff.mp h).1
 have e:ixN xs.length (j:Int)=some j:=by
  unfold ixN
  rw[if_pos (by lia),if_pos (by lia)];simp
 unfold atI;rw[e];exact h
noncomputable def PlainIx(b:Expr):Prop:=∀ o i,subscripted b false o i=operate [o,i] (getItem o i)
noncomputable def IxR(X:Cx)(r:R2):Prop :=
 ∀ (value slice:Expr) (pins:List (Addr×Obj)) (s:Shared) (σ:St) (H:Hp) (x y:V) (v u:Value) (Q:VK),Inv X pins σ H s->RelV x v->RelV y u->r x y H Q ->
  subscripted slice false v u=operate [v,u] (getItem v u)->wpAny (model X.prog X.w) X.A (subscriptTail value slice v u) (EP X pins σ Q) X.xe s
noncomputable def MtR(X:Cx)(id:String)(r:V->List V->Hp->VK->Prop):Prop :=
 ∀ (pins:List (Addr×Obj)) (s:Shared) (σ:St) (H:Hp) (x:V) (xs:List V) (v:Value) (us:List Value) (Q:VK),Inv X pins σ H s->RelV x v->Vals xs us->r x xs H Q ->
  wpAny (model X.prog X.w) X.A (call (.builtin id) (v :: us)) (EP X pins σ Q) X.xe s
section
variable{X:Cx}{a b:Expr}{ta tb:TE}{pos:Pos}
theorem pe_ix{r:R2}(hr:IxR X r)(ha:PE X a ta)(hb:PE X b tb)(hs:PlainIx b):PE X (.Subscript a b pos) (tOp r ta tb):=by
 intro pins s σ H Q I h
 exact Subscript_ (binT ha hb I h fun v u s2 x y H2 I2 rx ry q=>hr a b pins s2 σ H2 x y v u Q I2 rx ry q (hs _ _))
inductive rIxLI(K:PySem.W.Frag)(x:V)(y:V)(H:Hp)(Q:VK):Prop where
 |mk (p:_) (xs:_) (i:_) (v:_) (h1:x = .ref p) (h2:y = .int i) (h3:SqL K H p xs) (h4:atI xs i=some v) (h5:Q v H)
noncomputable def rIxL(K:PySem.W.Frag):R2:=fun x y H Q=>rIxLI K x y H Q
inductive rIxTI(K:PySem.W.Frag)(x:V)(y:V)(H:Hp)(Q:VK):Prop where
 |mk (p:_) (xs:_) (i:_) (v:_) (h1:x = .ref p) (h2:y = .int i) (h3:SqT K H p xs) (h4:atI xs i=some v) (h5:Q v H)
noncomputable def rIxT(K:PySem.W.Frag):R2:=fun x y H Q=>rIxTI K x y H Q
theorem ix_list:IxR X (rIxL X.K):=by
 intro value slice pins s σ H x y v u Q I rx ry h hs
 obtain⟨p,xs,i,z,rfl,rfl,hq,he,q⟩:=h
 cases rx
 obtain⟨t,rfl⟩:=ry
 obtain⟨its,r,pl,hz⟩:=I.list hq
 obtain⟨j,h1,h2,h3,h4,h5⟩:=atI_get he
 obtain⟨w,ew,rw'⟩:=r.get h2
 have hl:=r.length
 have hn:=line63
 have fin:EP X pins σ Q w s:=⟨z,H,I,rw',q⟩
 by_cases h0:0<=i
 ·have hj:i.toNat=j:=by
   rw[seqIndex_of h0 h5]at h1
   exact Option.some.inj h1
  exact item_listR pl.isList h0 (by lia) (by rw[hj];simpa using ew) fin hs
 ·have hj:(i+(its.toArray.size:Int)).toNat=j:=by
   rw[seqIndex_neg (by lia) h4]at h1
   rw[List.size_toArray,<- hl]
   exact Option.some.inj h1
  exact subscriptTail_builtinR (x:=w) pl.isList.typeIs slot_list_getitem.lookup
   (wpAny_getItem_list_neg (Q:=fun r s'=>r=w/\EP X pins σ Q r s') pl.isList (by lia) (by rw[List.size_toArray] <;> lia) (by lia) (by rw[hj];simpa using ew) ⟨rfl,fin⟩) hs
theorem ix_tup:IxR X (rIxT X.K):=by
 intro value slice pins s σ H x y v u Q I rx ry h hs
 obtain⟨p,xs,i,z,rfl,rfl,hq,he,q⟩:=h
 cases rx
 obtain⟨t,rfl⟩:=ry
 obtain⟨its,r,pl,hz⟩:=I.tuple hq
 obtain⟨j,h1,h2,h3,h4,h5⟩:=atI_get he
 obtain⟨w,ew,rw'⟩:=r.get h2
 have hl:=r.length
 have hn:=line63
 have fin:EP X pins σ Q w s:=⟨z,H,I,rw',q⟩
 exact subscriptTail_builtinR (x:=w) pl.typeIs slot_tuple_getitem.lookup
  (getItem_tuple (j:=j) (Q:=fun r s'=>r=w/\EP X pins σ Q r s') pl (by lia) (by lia) (by rw[List.size_toArray,<- hl];exact h1) (by simpa using ew) ⟨rfl,fin⟩) hs
theorem mapSeq_set(its:List Value)(n j:Nat)(u:Value):Obj.mapSeq (·.setIfInBounds j u) { cls:=.type "list",data:=.seq its.toArray n } = { cls:=.type "list",data:=.seq (its.set j u).toArray n }:=by
 simp[Obj.mapSeq]
theorem Inv.lst{pins:List (Addr×Obj)}{σ:St}{H:Hp}{s:Shared}{p:Addr}{xs:List V}(I:Inv X pins σ H s)(h:H p=some (.lst xs)) :
  ∃ (its:List Value) (n:Nat),Vals xs its/\s.heap.get? p=some { cls:=.type "list",data:=.seq its.toArray n }/\xs.length<=sizeLine:=by
 obtain⟨z,its,n,r,e⟩:=I.hok p _ h
 exact⟨its,n,r,e,z⟩
theorem Inv.lstUpd{pins:List (Addr×Obj)}{σ:St}{H:Hp}{s:Shared}{p:Addr}{xs ys:List V}{its its':List Value}{n n':Nat}{f:Obj->Obj}(I:Inv X pins σ H s)(h:H p=some (.lst xs))
  (ho:s.heap.get? p=some { cls:=.type "list",data:=.seq its.toArray n }) (hf:f { cls:=.type "list",data:=.seq its.toArray n } = { cls:=.type "list",data:=.seq its'.toArray n' }) (r:Vals ys its') (hz:ys.length<=sizeLine) (t:Nat) :
  Inv X pins σ (upd H p (.lst ys)) { s with heap:=s.heap.update p f,toks:=t }:=by
 have e:(s.heap.update p f).get? p=some { cls:=.type "list",data:=.seq its'.toArray n' }:=by
  rw[Heap.get?_update_self f ho (by rw[hf] <;> rfl),hf]
 refine I.write (x:=p) (e:=p) (by rw[h];trivial) (.inl rfl) (fun b u hb q=>(Heap.get?_update_other _ _ (Ne.symm hb)).trans q) ⟨_,e⟩ ?_
 exact⟨hz,its',n',r,e⟩
inductive rSetLI(o:V)(i:V)(v:V)(H:Hp)(Q:Hp->Prop):Prop where
 |mk (p:_) (xs:_) (k:_) (j:_) (h1:o = .ref p) (h2:i = .int k) (h3:H p=some (.lst xs)) (h4:ixN xs.length k=some j) (h5:Q (upd H p (.lst (xs.set j v))))
noncomputable def rSetL:V->V->V->Hp->(Hp->Prop)->Prop:=fun o i v H Q=>rSetLI o i v H Q
theorem set_list:PSet X rSetL:=by
 intro pins s σ H o i v ov iv u Q I ro ri rv h
 obtain⟨p,xs,k,j,rfl,rfl,hp,hj,q⟩:=h
 cases ro
 obtain⟨t,rfl⟩:=ri
 obtain⟨its,n,r,ho,hz⟩:=I.lst hp
 obtain⟨h1,h2,h3,h4⟩:=ixN_seq hj
 have hl:=r.length
 have hn:=line63
 have I':Inv X pins σ (upd H p (.lst (xs.set j v))) { s with heap:=s.heap.update p (Obj.mapSeq (·.setIfInBounds j u)) } :=
  I.lstUpd hp ho (mapSeq_set its n j u) (r.set rv j) (by rw[List.length_set];exact hz) s.toks
 by_cases h0:0<=k
 ·have hk:k.toNat=j:=by
   rw[seqIndex_of h0 h4]at h1
   exact Option.some.inj h1
  exact PySem.W.ki_setAt ho h0 (by lia) (by rw[List.size_toArray,<- hl];exact h4) (by rw[hk];exact⟨_,I',q⟩)
 ·have hk:(k+(its.toArray.size:Int)).toNat=j:=by
   rw[seqIndex_neg (by lia) h3]at h1
   rw[List.size_toArray,<- hl]
   exact Option.some.inj h1
  exact PySem.W.ki_setBack ho (by lia) (by rw[List.size_toArray,<- hl];exact h3) (by lia) (by rw[hk];exact⟨_,I',q⟩)
theorem slice_bounds(lo hi:Option Int)(n:Nat):(sliceBounds lo hi none n).1=((HT.sIx n 0 lo:Nat):Int)/\(sliceBounds lo hi none n).2.1=((HT.sIx n n hi:Nat):Int)/\(sliceBounds lo hi none n).2.2=1:=by
 refine⟨?_,?_,rfl⟩
 ·cases lo with
  |none=>simp[sliceBounds,HT.sIx]
  |some i =>
   simp only[sliceBounds,HT.sIx,Option.getD_none,show(1:Int) > 0 by decide,if_true]
   by_cases h:i<0
   ·simp only[h,if_true] <;> lia
   ·simp only[h,if_false] <;> lia
 ·cases hi with
  |none=>simp[sliceBounds,HT.sIx]
  |some i =>
   simp only[sliceBounds,HT.sIx,Option.getD_none,show(1:Int) > 0 by decide,if_true]
   by_cases h:i<0
   ·simp only[h,if_true] <;> lia
   ·simp only[h,if_false] <;> lia
theorem slicePick_cut(its:List Value)(lo hi:Option Int):slicePick its.toArray lo hi none=((its.drop (HT.sIx its.length 0 lo)).take (HT.sIx its.length its.length hi-HT.sIx its.length 0 lo)).toArray:=by
 obtain⟨h1,h2,h3⟩:=slice_bounds lo hi its.toArray.size
 unfold slicePick
 rw[h1,h2,h3]
 simp only[sliceRange_one,pick_run,List.size_toArray] <;> rfl
inductive rSlLI(K:PySem.W.Frag)(x:V)(lo:Option Int)(hi:Option Int)(H:Hp)(Q:VK):Prop where
 |mk (a:_) (xs:_) (h1:x = .ref a) (h2:SqL K H a xs) (h3:∀ p,H p=none->Q (.ref p) (upd H p (.lst (cutV xs lo hi))))
noncomputable def rSlL(K:PySem.W.Frag):V->Option Int->Option Int->Hp->VK->Prop:=fun x lo hi H Q=>rSlLI K x lo hi H Q
theorem sl_list:SlR X (rSlL X.K):=by
 intro pins s σ H x v vl vu lo hi sl Q I rx hs pl pu h
 obtain⟨a,xs,rfl,hx,q⟩:=h
 cases rx
 obtain⟨its,r,ht,hz⟩:=I.list hx
 have hlen:=r.length
 refine⟨"list",_,slot_list_getitem.lookup,ht.isList.typeIs,?_⟩
 refine wpAny_getItem_list_slice ht.isList hs pl pu .none (by simp) ?_ (by rw[List.size_toArray] <;> lia)
 rw[slicePick_cut,<- hlen]
 refine⟨.ref s.heap.objs.size,_,I.laid (t':=s.toks) (o:=.lst (cutV xs lo hi)) (fun b ob q=>Heap.get?_push_of_some _ q) (Nat.le_refl _) ?_,rfl,q _ (I.hok.fresh (Nat.le_refl _))⟩
 exact⟨Nat.le_trans (cutV_length xs lo hi) hz,_,0,(r.drop (HT.sIx xs.length 0 lo)).take (HT.sIx xs.length xs.length hi-HT.sIx xs.length 0 lo),Heap.get?_push_size _ rfl⟩
noncomputable def flatV:V->Bool
 | .non=>true
 | .bl _=>true
 | .int _=>true
 | .str _=>true
 | _=>false
noncomputable def eqV:V->V->Bool
 | .non,.non=>true
 | .bl a,.bl b=>a == b
 | .bl a,.int b=>(if a then 1 else 0) == b
 | .int a,.bl b=>a ==(if b then 1 else 0)
 | .int a,.int b=>a == b
 | .str a,.str b=>a == b
 | _,_=>false
theorem eqAt_V{A:Around}{s:Shared}{y x:V}{u v:Value}(ry:RelV y u)(rx:RelV x v)(fy:flatV y=true)(fx:flatV x=true):SeqAt.EqAt A s u v (eqV y x):=by
 cases y with
 |non =>
  cases ry
  cases x with
  |non=>cases rx;exact SeqAt.EqAt.same _
  |bl b=>cases rx;exact SeqAt.EqAt.none_bool b
  |int b=>obtain⟨t,rfl⟩:=rx;exact SeqAt.EqAt.none_int b t
  |str b=>obtain⟨t,rfl⟩:=rx;exact SeqAt.EqAt.none_str b t
  | _=>exact absurd (show false=true from fx) Bool.false_ne_true
 |bl a =>
  cases ry
  cases x with
  |non=>cases rx;exact SeqAt.EqAt.bool_none a
  |bl b=>cases rx;exact SeqAt.EqAt.bool_bool a b
  |int b=>obtain⟨t,rfl⟩:=rx;exact SeqAt.EqAt.bool_int a b t
  |str b=>obtain⟨t,rfl⟩:=rx;exact SeqAt.EqAt.bool_str a b t
  | _=>exact absurd (show false=true from fx) Bool.false_ne_true
 |int a =>
  obtain⟨t',rfl⟩:=ry
  cases x with
  |non=>cases rx;exact SeqAt.EqAt.int_none a t'
  |bl b=>cases rx;exact SeqAt.EqAt.int_bool a t' b
  |int b=>obtain⟨t,rfl⟩:=rx;exact SeqAt.EqAt.int_int a t' b t
  |str b=>obtain⟨t,rfl⟩:=rx;exact SeqAt.EqAt.int_str a t' b t
  | _=>exact absurd (show false=true from fx) Bool.false_ne_true
 |str a =>
  obtain⟨t',rfl⟩:=ry
  cases x with
  |non=>cases rx;exact SeqAt.EqAt.str_none a t'
  |bl b=>cases rx;exact SeqAt.EqAt.str_bool a t' b
  |int b=>obtain⟨t,rfl⟩:=rx;exact SeqAt.EqAt.str_int a t' b t
  |str b=>obtain⟨t,rfl⟩:=rx;exact SeqAt.EqAt.str_str a t' b t
  | _=>exact absurd (show false=true from fx) Bool.false_ne_true
 | _=>exact absurd (show false=true from fy) Bool.false_ne_true
noncomputable def eqU(x:V)(u:Value):Bool:=match u with
 | .none=>eqV .non x
 | .bool b=>eqV (.bl b) x
 | .int i _=>eqV (.int i) x
 | .str z _=>eqV (.str z) x
 | _=>false
theorem eqU_of{x y:V}{u:Value}(r:RelV y u)(f:flatV y=true):eqU x u=eqV y x:=by
 cases y with
 |non=>cases r;rfl
 |bl b=>cases r;rfl
 |int i=>obtain⟨t,rfl⟩:=r;rfl
 |str z=>obtain⟨t,rfl⟩:=r;rfl
 | _=>exact absurd (show false=true from f) Bool.false_ne_true
theorem any_eqU{x:V}:∀ {xs:List V}{us:List Value},Vals xs us->xs.all flatV=true->us.any (eqU x)=xs.any fun y=>eqV y x
 | _,_,.nil,_=>rfl
 |y :: xs,u :: us,.cons r t,f=>by
  rw[List.all_cons,Bool.and_eq_true]at f
  rw[List.any_cons,List.any_cons,eqU_of r f.1,any_eqU t f.2]
theorem mem_eqAt{A:Around}{s:Shared}{x:V}{v:Value}(rx:RelV x v)(fx:flatV x=true):∀ {xs:List V}{us:List Value},Vals xs us->xs.all flatV=true->∀ u∈us,SeqAt.EqAt A s u v (eqU x u)
 | _,_,.nil,_=>fun u hu=>by cases hu
 |y :: xs,u :: us,.cons r t,f=>fun u' hu=>by
  rw[List.all_cons,Bool.and_eq_true]at f
  rcases List.mem_cons.mp hu with rfl | hu
  ·rw[eqU_of r f.1];exact eqAt_V r rx f.1 fx
  ·exact mem_eqAt rx fx t f.2 u' hu
noncomputable def inV(x:V)(xs:List V):Bool:=xs.any fun y=>eqV y x
inductive rInI(K:PySem.W.Frag)(neg:Bool)(x:V)(y:V)(H:Hp)(Q:VK):Prop where
 |mk (p:_) (xs:_) (h1:y = .ref p) (h2:(SqL K H p xs\/SqT K H p xs)) (h3:flatV x=true) (h4:xs.all flatV=true) (h5:Q (.bl (if neg then !inV x xs else inV x xs)) H)
noncomputable def rIn(K:PySem.W.Frag)(neg:Bool):R2:=fun x y H Q=>rInI K neg x y H Q
theorem op_in_seq:OpR X (compareOp .In) (rIn X.K false):=by
 intro pins s σ H x y v u Q I rx ry h
 obtain⟨p,xs,rfl,hq,fx,fs,q⟩:=h
 cases ry
 rcases hq with hq | hq
 ·obtain⟨its,r,pl,hz⟩:=I.list hq
  refine SeqAt.in_listAt (eqU x) pl.isList (fun w hw=>mem_eqAt rx fx r fs w (by simpa using hw)) ⟨.bl _,H,I,rfl,?_⟩
  rw[show its.toArray.any (eqU x)=its.any (eqU x) by simp,any_eqU r fs]
  exact q
 ·obtain⟨its,r,pl,hz⟩:=I.tuple hq
  refine SeqAt.in_tupleAt (eqU x) pl (fun w hw=>mem_eqAt rx fx r fs w (by simpa using hw)) ⟨.bl _,H,I,rfl,?_⟩
  rw[show its.toArray.any (eqU x)=its.any (eqU x) by simp,any_eqU r fs]
  exact q
theorem op_notIn_seq:OpR X (compareOp .NotIn) (rIn X.K true):=by
 intro pins s σ H x y v u Q I rx ry h
 obtain⟨p,xs,rfl,hq,fx,fs,q⟩:=h
 cases ry
 rcases hq with hq | hq
 ·obtain⟨its,r,pl,hz⟩:=I.list hq
  refine SeqAt.notIn_listAt (eqU x) pl.isList (fun w hw=>mem_eqAt rx fx r fs w (by simpa using hw)) ⟨.bl _,H,I,rfl,?_⟩
  rw[show its.toArray.any (eqU x)=its.any (eqU x) by simp,any_eqU r fs]
  exact q
 ·obtain⟨its,r,pl,hz⟩:=I.tuple hq
  refine SeqAt.notIn_tupleAt (eqU x) pl (fun w hw=>mem_eqAt rx fx r fs w (by simpa using hw)) ⟨.bl _,H,I,rfl,?_⟩
  rw[show its.toArray.any (eqU x)=its.any (eqU x) by simp,any_eqU r fs]
  exact q
theorem call_len_seq:CallR X (.builtin "len") (fun xs H Q=>∃ p ys,xs=[.ref p]/\(SqL X.K H p ys\/SqT X.K H p ys)/\Q (.int ys.length) H):=by
 intro pins s σ H xs us Q I r h
 obtain⟨p,ys,rfl,hq,q⟩:=h
 obtain⟨u,rfl,rx⟩:=vals1 r
 cases rx
 have hn:=line63
 rcases hq with hq | hq
 ·obtain⟨its,r',pl,hz⟩:=I.list hq
  have hlen:=r'.length
  exact Calls.call_len_list pl.isList (by simp only[List.size_toArray] <;> lia) ⟨.int ys.length,H,I.tok _,⟨s.toks+1,by rw[List.size_toArray,hlen]⟩,q⟩
 ·obtain⟨its,r',pl,hz⟩:=I.tuple hq
  have hlen:=r'.length
  exact len_tuple pl (by simp only[List.size_toArray] <;> lia) ⟨.int ys.length,H,I.tok _,⟨s.toks+1,by rw[List.size_toArray,hlen]⟩,q⟩
theorem call_list_of:CallR X (.type "list") (fun xs H Q=>∃ p ys,xs=[.ref p]/\(SqL X.K H p ys\/SqT X.K H p ys)/\∀ l,H l=none->Q (.ref l) (upd H l (.lst ys))):=by
 intro pins s σ H xs us Q I r h
 obtain⟨p,ys,rfl,hq,q⟩:=h
 obtain⟨u,rfl,rx⟩:=vals1 r
 cases rx
 have fin:∀ (its:List Value),Vals ys its->ys.length<=sizeLine->∀ (h':Heap) (c':Nat),(∀ b o',s.heap.get? b=some o'->h'.get? b=some o') ->
   h'.get? s.heap.objs.size=some { cls:=.type "list",dict:=none,data:=.seq its.toArray c',slots:=#[] }->EP X pins σ Q (.ref s.heap.objs.size) { s with heap:=h' }:=fun its r' hz h' c' kp e =>
  ⟨.ref s.heap.objs.size,_,I.laid (t':=s.toks) kp (Nat.le_refl _) (show ObjOk X.prog X.w _ h' _ (.lst ys)from⟨hz,its,c',r',e⟩),rfl,q _ (I.hok.fresh (Nat.le_refl _))⟩
 rcases hq with hq | hq
 ·obtain⟨its,r',pl,hz⟩:=I.list hq
  have hlen:=r'.length
  obtain⟨o,ho,hc,n,hd⟩:=pl.isList
  exact call_list_seq p (.inl rfl) ho hc hd (fun h' c' kp e=>fin its r' hz h' c' kp e) (by simp only[List.size_toArray] <;> lia)
 ·obtain⟨its,r',pl,hz⟩:=I.tuple hq
  have hlen:=r'.length
  obtain⟨o,ho,hc,n,hd⟩:=pl
  exact call_list_seq p (.inr rfl) ho hc hd (fun h' c' kp e=>fin its r' hz h' c' kp e) (by simp only[List.size_toArray] <;> lia)
theorem call_tuple_of:CallR X (.type "tuple") (fun xs H Q=>∃ p ys,xs=[.ref p]/\((SqL X.K H p ys/\∀ l,H l=none->Q (.ref l) (upd H l (.tup ys)))\/(SqT X.K H p ys/\Q (.ref p) H))):=by
 intro pins s σ H xs us Q I r h
 obtain⟨p,ys,rfl,h⟩:=h
 obtain⟨u,rfl,rx⟩:=vals1 r
 cases rx
 rcases h with⟨hq,q⟩ |⟨hq,q⟩
 ·obtain⟨its,r',pl,hz⟩:=I.list hq
  have hlen:=r'.length
  refine call_tuple_list pl.isList (fun h' kp=>?_) (by simp only[List.size_toArray] <;> lia)
  have I1:Inv X pins σ H { s with heap:=h' }:=I.kept (t':=s.toks) kp
  have I2:Inv X pins σ (upd H h'.objs.size (.tup ys)) { s with heap:=h'.push { cls:=.type "tuple",data:=.seq its.toArray } } :=
   I1.laid (t':=s.toks) (fun b o e=>Heap.get?_push_of_some _ e) (Nat.le_refl _) (show ObjOk X.prog X.w _ _ _ (.tup ys)from⟨hz,its,r',IsTup.new _ _⟩)
  exact⟨.ref h'.objs.size,_,I2,rfl,q _ (I1.hok.fresh (Nat.le_refl _))⟩
 ·obtain⟨its,r',pl,hz⟩:=I.tuple hq
  exact call_tuple_same pl ⟨.ref p,H,I,rfl,q⟩
noncomputable def tyV(K:PySem.W.Frag)(T:String)(x:V)(H:Hp):Prop:=match x with
 | .str _=>T = "str"
 | .int _=>T = "int"
 | .ref p=>(T = "list"/\∃ xs,SqL K H p xs)\/(T = "tuple"/\∃ o,K.lookup p=some o/\o.cls = .type "tuple"/\o.dict=none) \/
   (T = "dict"/\((∃ kvs,H p=some (.dK kvs))\/∃ kvs,H p=some (.dT kvs)))\/(T = "set"/\∃ S n,H p=some (.set S n))
 | _=>False
theorem tyV_is{pins:List (Addr×Obj)}{σ:St}{H:Hp}{s:Shared}{T:String}{x:V}{v:Value}(I:Inv X pins σ H s)(r:RelV x v)(ty:tyV X.K T x H) :
  s.TypeIs v T/\∀ a,v = .ref a->∃ ob,s.heap.get? a=some ob/\ob.dict=none:=by
 cases x with
 |str z =>
  obtain⟨t,rfl⟩:=r
  cases(show T = "str" from ty)
  exact⟨typeIs_str s z t,fun _ e=>nomatch e⟩
 |int i =>
  obtain⟨t,rfl⟩:=r
  cases(show T = "int" from ty)
  exact⟨typeIs_int s i t,fun _ e=>nomatch e⟩
 |ref p =>
  cases r
  rcases ty with⟨rfl,xs,hq⟩ |⟨rfl,o,hk,hc,hd⟩ |⟨rfl,hk⟩ |⟨rfl,S,n,hk⟩
  ·obtain⟨its,_,pl,_⟩:=I.list hq
   refine⟨pl.isList.typeIs,fun a e=>?_⟩
   cases e
   obtain⟨o,n,e,c,hd,_⟩:=pl
   exact⟨o,e,hd⟩
  ·refine⟨⟨o,I.kIn p o hk,hc⟩,fun a e=>?_⟩
   cases e
   exact⟨o,I.kIn _ o hk,hd⟩
  ·have z:∃ o,s.heap.get? p=some o/\o.ExactDict:=by
    rcases hk with⟨kvs,hk⟩ |⟨kvs,hk⟩
    ·obtain⟨_,_,_,_,o,_,_,e,ex,_⟩:=I.hok p _ hk
     exact⟨o,e,ex⟩
    ·obtain⟨_,_,_,_,o,_,_,e,ex,_⟩:=I.hok p _ hk
     exact⟨o,e,ex⟩
   obtain⟨o,e,ex⟩:=z
   refine⟨⟨o,e,ex.1⟩,fun a e2=>?_⟩
   cases e2
   exact⟨o,e,ex.2.1⟩
  ·obtain⟨o,_,_,_,e,ex,_⟩:=I.hok p _ hk
   refine⟨⟨o,e,ex.1⟩,fun a e2=>?_⟩
   cases e2
   exact⟨o,e,ex.2.1⟩
 | _=>exact False.elim ty
noncomputable def tBM0(K:PySem.W.Frag)(T:String)(r:V->List V->Hp->VK->Prop)(to:TE):TE:=fun σ H Q=>to σ H fun x H1=>tyV K T x H1/\r x [] H1 Q
noncomputable def tBM(K:PySem.W.Frag)(T:String)(r:V->List V->Hp->VK->Prop)(to:TE)(t:TA):TE:=fun σ H Q=>to σ H fun x H1=>tyV K T x H1/\t σ H1 fun xs H2=>r x xs H2 Q
variable{o e:Expr}{es:List Expr}{to:TE}{t:TA}{name:Str}{apos cpos:Pos}{T id:String}{r:V->List V->Hp->VK->Prop}
theorem pe_bm0(pa:PlainAttrs T)(slot:Slot T name id)(hty:typeOf (.builtin id)=pure (.type "method_descriptor"))(hm:MtR X id r)(ho:PE X o to)
  (hbase:attributeBase o name X.env (eval o X.env)=eval o X.env:=by rfl) (hline:(apos.endLine == cpos.line)=true:=by rfl):PE X (.Call (.Attribute o name apos) [] [] cpos) (tBM0 X.K T r to):=by
 intro pins s σ H Q I h
 refine wpAny_Call_method0_late hbase hline (thn (ho pins s σ H _ I h) fun v s1 ⟨x,H1,I1,r1,ty,q1⟩=>?_)
 obtain⟨h1,h2⟩:=tyV_is I1 r1 ty
 exact⟨T,id,pa,slot,hty,h1,h2,Calls.callWith_builtin rfl (PySem.evalArgs_none (hm pins s1 σ H1 x [] v [] Q I1 r1 .nil q1))⟩
theorem pe_bm(pa:PlainAttrs T)(slot:Slot T name id)(hty:typeOf (.builtin id)=pure (.type "method_descriptor"))(hm:MtR X id r)(ho:PE X o to)(ha:PA X (e :: es) t)
  (hbase:attributeBase o name X.env (eval o X.env)=eval o X.env:=by rfl)
  (hfew:((backTo cpos (starEach (e :: es) X.env)).all (fun x=>!x.1) && (backToKw cpos (keywordEach [] X.env)).all (fun x=>x.1.isSome)
   && decide ((e :: es).length+([]:List Keyword).length+(if([]:List Keyword).isEmpty then 0 else 1)<30))=true:=by rfl)
  (hline:(apos.endLine == cpos.line)=true:=by rfl) (hs:starEach (e :: es) X.env=(false,eval e X.env) :: starEach es X.env:=by rfl) (hplain:(backTo cpos (starEach es X.env)).any (·.1)=false:=by rfl) :
  PE X (.Call (.Attribute o name apos) (e :: es) [] cpos) (tBM X.K T r to t):=by
 intro pins s σ H Q I h
 refine wpAny_Call_method_late hbase hfew hline rfl (thn (ho pins s σ H _ I h) fun v s1 ⟨x,H1,I1,r1,ty,q1⟩=>?_)
 obtain⟨h1,h2⟩:=tyV_is I1 r1 ty
 refine⟨T,id,pa,slot,hty,h1,h2,?_⟩
 have hA:=ha cpos pins s1 σ H1 _ I1 q1
 rw[hs]at hA ⊢
 refine Calls.callWith_builtin (by show(false ||(backTo cpos (starEach es X.env)).any (·.1))=false;rw[hplain] <;> rfl) (Calls.evalArgs_plain ?_)
 exact thn hA fun us s2 ⟨vs,H2,I2,r2,q2⟩=>hm pins s2 σ H2 x vs v us Q I2 r1 r2 q2
end
open PySem PySem.Spec PyProof.Rows
noncomputable def MtM(X:Cx)(id:String)(r:V->List V->Hp->VK->Prop):Prop :=
 ∀ (pins:List (Addr×Obj)) (s:Shared) (σ:St) (H:Hp) (x:V) (xs:List V) (v:Value) (us:List Value) (Q:VK),Inv X pins σ H s->RelV x v->Vals xs us->r x xs H Q ->
  wpAny (model X.prog X.w) X.A (call (.builtin id) (v :: us)) (EP X pins σ Q) X.xe s
theorem Vals.one{x:V}{us:List Value}(h:Vals [x] us):∃ u,us=[u]/\RelV x u:=by
 cases h with | cons r q=>cases q;exact⟨_,rfl,r⟩
theorem Vals.zero:∀ {us:List Value},Vals [] us->us=[]
 | _,.nil=>rfl
theorem Vals.dropLast{xs:List V}{us:List Value}(h:Vals xs us):Vals xs.dropLast us.dropLast:=by
 induction h with
 |nil=>exact .nil
 |cons r t ih =>
  cases t with
  |nil=>exact .nil
  |cons q t'=>exact .cons r ih
theorem Vals.eraseIdx:∀ {xs:List V}{us:List Value} (i:Nat),Vals xs us->Vals (xs.eraseIdx i) (us.eraseIdx i)
 | _,_,_,.nil=>.nil
 | _,_,0,.cons _ t=>t
 | _,_,i+1,.cons r t=>.cons r (Vals.eraseIdx i t)
theorem Vals.rep{xs:List V}{us:List Value}(h:Vals xs us):∀ k:Nat,Vals (List.replicate k xs).flatten (List.replicate k us).flatten
 | 0=>.nil
 |k+1=>by
  rw[List.replicate_succ,List.replicate_succ,List.flatten_cons,List.flatten_cons]
  exact Vals.append h (Vals.rep h k)
theorem erase_last{α:Type}(l:List α):l.eraseIdx (l.length-1)=l.dropLast:=by
 induction l with
 |nil=>rfl
 |cons a r ih =>
  cases r with
  |nil=>rfl
  |cons b r =>
   have e:(a :: b :: r).length-1=((b :: r).length-1)+1:=by
    have h1:(a :: b :: r).length=r.length+2:=rfl
    have h2:(b :: r).length=r.length+1:=rfl
    lia
   rw[e,List.eraseIdx_cons_succ,ih]
   all_goals rfl
theorem len_erase{α:Type}:∀ (l:List α) (i:Nat),(l.eraseIdx i).length<=l.length
 |[],_=>Nat.le_refl _
 | _ :: _,0=>Nat.le_succ _
 | _ :: r,i+1=>Nat.succ_le_succ (len_erase r i)
theorem foldl_rep(its:List Value):∀ (k:Nat) (acc:List Value),
  List.foldl (fun x1 x2=>x1++x2) acc.toArray (List.replicate k its.toArray)=(acc++(List.replicate k its).flatten).toArray
 | 0,acc=>by simp
 |k+1,acc=>by
  have e:acc.toArray++its.toArray=(acc++its).toArray:=by simp
  have e2:(acc++its)++(List.replicate k its).flatten=acc++(List.replicate (k+1) its).flatten:=by
   rw[List.replicate_succ,List.flatten_cons,List.append_assoc]
  rw[<- e2,<- foldl_rep its k (acc++its),<- e,List.replicate_succ,List.foldl_cons]
section
variable{X:Cx}{pins:List (Addr×Obj)}{σ:St}{H:Hp}{s:Shared}{l b:Addr}{xs ys zs:List V}
theorem Inv.lset{its its':List Value}{n:Nat}{f:Array Value->Array Value}{t':Nat}(I:Inv X pins σ H s)(hH:H l=some (.lst xs))
  (e:s.heap.get? l=some { cls:=.type "list",data:=.seq its.toArray n }) (hf:f its.toArray=its'.toArray) (hv:Vals ys its') (hz:ys.length<=sizeLine) :
  Inv X pins σ (upd H l (.lst ys)) { s with heap:=s.heap.update l (Obj.mapSeq f),toks:=t' }:=by
 have q:=PySem.IsL.update e f
 rw[hf]at q
 refine I.write (x:=l) (e:=l) (by rw[hH];exact trivial) (.inl rfl) (fun b' u hb hu=>(Heap.get?_update_other s.heap (Obj.mapSeq f) (Ne.symm hb)).trans hu) ⟨_,q⟩ ?_
 exact⟨hz,its',_,hv,q⟩
theorem Inv.lnew{its:List Value}{t':Nat}(I:Inv X pins σ H s)(hv:Vals ys its)(hz:ys.length<=sizeLine) :
  Inv X pins σ (upd H s.heap.objs.size (.lst ys)) { s with heap:=s.heap.push { cls:=.type "list",data:=.seq its.toArray },toks:=t' } :=
 I.laid (fun _ _ q=>Heap.get?_push_of_some _ q) (Nat.le_refl _) ⟨hz,its,0,hv,Heap.get?_push_size _ rfl⟩
theorem Inv.fresh(I:Inv X pins σ H s):H s.heap.objs.size=none:=I.hok.fresh (Nat.le_refl _)
theorem Inv.lstM(I:Inv X pins σ H s)(hH:H l=some (.lst xs)):xs.length<=sizeLine/\∃ (its:List Value) (n:Nat),Vals xs its/\xs.length=its.length/\s.heap.get? l=some { cls:=.type "list",data:=.seq its.toArray n }:=by
 obtain⟨z,its,n,r,e⟩:=I.hok l _ hH
 exact⟨z,its,n,r,r.length,e⟩
theorem notLongL{n:Nat}(h:n<=sizeLine):Builtin.List.listTooLong n=false:=by
 unfold Builtin.List.listTooLong
 exact decide_eq_false (by lia)
end
section
variable{X:Cx}
inductive rAppendI(x:V)(vs:List V)(H:Hp)(Q:VK):Prop where
 |mk (l:_) (xs:_) (y:_) (h1:x = .ref l) (h2:vs=[y]) (h3:H l=some (.lst xs)) (h4:xs.length<sizeLine) (h5:Q .non (upd H l (.lst (xs++[y]))))
noncomputable def rAppend:V->List V->Hp->VK->Prop:=fun x vs H Q=>rAppendI x vs H Q
theorem mt_append:MtM X "list.append" rAppend:=by
 intro pins s σ H x vs v us Q I rx rv h
 obtain⟨l,xs,y,rfl,rfl,hH,hz,q⟩:=h
 cases rx
 obtain⟨u,rfl,ru⟩:=rv.one
 obtain⟨z,its,n,r,hl,e⟩:=I.lstM hH
 refine call_meets F.slot_list_append ⟨_,e,rfl⟩ F.entry_list_append (F.args_list_append_2 _ _) (PySem.list_append l its.toArray n u (by rw[List.size_toArray];lia)) ⟨e,?_⟩
 refine⟨.non,_,I.lset (its':=its++[u]) hH e (by simp) (r.append (.cons ru .nil)) ?_,rfl,q⟩
 rw[List.length_append,List.length_singleton]
 lia
inductive rExtendI(x:V)(vs:List V)(H:Hp)(Q:VK):Prop where
 |mk (l:_) (b:_) (xs:_) (zs:_) (h1:x = .ref l) (h2:vs=[.ref b]) (h3:H l=some (.lst xs)) (h4:H b=some (.lst zs)) (h5:xs.length+zs.length<=sizeLine) (h6:Q .non (upd H l (.lst (xs++zs))))
noncomputable def rExtend:V->List V->Hp->VK->Prop:=fun x vs H Q=>rExtendI x vs H Q
theorem mt_extend:MtM X "list.extend" rExtend:=by
 intro pins s σ H x vs v us Q I rx rv h
 obtain⟨l,b,xs,zs,rfl,rfl,hH,hB,hz,q⟩:=h
 cases rx
 obtain⟨u,rfl,ru⟩:=rv.one
 cases ru
 obtain⟨z,its,n,r,hl,e⟩:=I.lstM hH
 obtain⟨z2,its2,n2,r2,hl2,e2⟩:=I.lstM hB
 have hsz:its.toArray.size+its2.toArray.size<=sizeLine:=by rw[List.size_toArray,List.size_toArray];lia
 have hlong:¬(!its.toArray.isEmpty && Builtin.List.listTooLong (its.toArray.size+its2.toArray.size))=true:=by
  rw[notLongL hsz,Bool.and_false]
  exact Bool.false_ne_true
 refine call_meets F.slot_list_extend ⟨_,e,rfl⟩ F.entry_list_extend (F.args_list_extend_2 _ _)
  (AutoSeq1.list_extend_list_list_0 l its.toArray n b its2.toArray n2 hlong (by rw[List.size_toArray];lia) (by lia)) ⟨e,e2,?_⟩
 refine⟨.non,_,I.lset (its':=its++its2) hH e (by simp) (r.append r2) ?_,rfl,q⟩
 rw[List.length_append]
 omega
inductive rPopI(x:V)(vs:List V)(H:Hp)(Q:VK):Prop where
 |mk (l:_) (xs:_) (y:_) (h1:x = .ref l) (h2:vs=[]) (h3:H l=some (.lst xs)) (h4:xs[xs.length-1]?=some y) (h5:Q y (upd H l (.lst xs.dropLast)))
noncomputable def rPop:V->List V->Hp->VK->Prop:=fun x vs H Q=>rPopI x vs H Q
theorem mt_pop:MtM X "list.pop" rPop:=by
 intro pins s σ H x vs v us Q I rx rv h
 obtain⟨l,xs,y,rfl,rfl,hH,hy,q⟩:=h
 cases rx
 have hus:=rv.zero
 subst hus
 obtain⟨z,its,n,r,hl,e⟩:=I.lstM hH
 obtain⟨u,hu,ru⟩:=r.get hy
 have hy':its.toArray[its.toArray.size-1]?=some u:=by
  show its.toArray[its.length-1]?=some u
  rw[<- Array.getElem?_toList,<- hl]
  exact hu
 refine call_meets F.slot_list_pop ⟨_,e,rfl⟩ F.entry_list_pop (F.args_list_pop_1 _) (MeetsSeq.list_pop_last l its.toArray n u hy' (by rw[List.size_toArray];lia)) ⟨e,?_⟩
 refine⟨y,_,I.lset (its':=its.dropLast) hH e ?_ r.dropLast ?_,ru,q⟩
 ·show its.toArray.eraseIdxIfInBounds (its.toArray.size-1)=its.dropLast.toArray
  rw[List.size_toArray,List.eraseIdxIfInBounds_toArray,erase_last]
 ·rw[List.length_dropLast]
  omega
inductive rPopAtI(x:V)(vs:List V)(H:Hp)(Q:VK):Prop where
 |mk (l:_) (xs:_) (i:_) (k:_) (y:_) (h1:x = .ref l) (h2:vs=[.int i]) (h3:H l=some (.lst xs)) (h4:-(2 ^ 63)<=i) (h5:i<2 ^ 63) (h6:seqIndex? i xs.length=some k) (h7:xs[k]?=some y) (h8:Q y (upd H l (.lst (xs.eraseIdx k))))
noncomputable def rPopAt:V->List V->Hp->VK->Prop:=fun x vs H Q=>rPopAtI x vs H Q
theorem mt_popAt:MtM X "list.pop" rPopAt:=by
 intro pins s σ H x vs v us Q I rx rv h
 obtain⟨l,xs,i,k,y,rfl,rfl,hH,h1,h2,hk,hy,q⟩:=h
 cases rx
 obtain⟨u,rfl,ru⟩:=rv.one
 obtain⟨t,rfl⟩:=ru
 obtain⟨z,its,n,r,hl,e⟩:=I.lstM hH
 obtain⟨w,hw,rw'⟩:=r.get hy
 refine call_meets F.slot_list_pop ⟨_,e,rfl⟩ F.entry_list_pop (F.args_list_pop_2 _ _)
  (MeetsSeq.list_pop_at l its.toArray n i t k w (fitsIndex_both h1 h2) (by rw[List.size_toArray,<- hl];exact hk) (by rw[<- Array.getElem?_toList];exact hw) (by rw[List.size_toArray];lia)) ⟨e,?_⟩
 refine⟨y,_,I.lset (its':=its.eraseIdx k) hH e ?_ (r.eraseIdx k) ?_,rw',q⟩
 ·show its.toArray.eraseIdxIfInBounds k=(its.eraseIdx k).toArray
  rw[List.eraseIdxIfInBounds_toArray]
 ·have:=len_erase xs k
  lia
inductive rCatI(x:V)(y:V)(H:Hp)(Q:VK):Prop where
 |mk (l:_) (b:_) (xs:_) (zs:_) (h1:x = .ref l) (h2:y = .ref b) (h3:H l=some (.lst xs)) (h4:H b=some (.lst zs)) (h5:xs.length+zs.length<=sizeLine) (h6:∀ p,H p=none->Q (.ref p) (upd H p (.lst (xs++zs))))
noncomputable def rCat:R2:=fun x y H Q=>rCatI x y H Q
theorem op_cat:OpR X (binaryOp .Add) rCat:=by
 intro pins s σ H x y v u Q I rx ry h
 obtain⟨l,b,xs,zs,rfl,rfl,hH,hB,hz,q⟩:=h
 cases rx
 cases ry
 obtain⟨z,its,n,r,hl,e⟩:=I.lstM hH
 obtain⟨z2,its2,n2,r2,hl2,e2⟩:=I.lstM hB
 refine PySem.P.add_list e e2 ?_ (by rw[List.size_toArray,List.size_toArray];lia)
 have ea:its.toArray++its2.toArray=(its++its2).toArray:=by simp
 rw[ea]
 exact⟨.ref _,_,I.lnew (t':=s.toks) (r.append r2) (by rw[List.length_append];omega),rfl,q _ I.fresh⟩
inductive rRepI(x:V)(y:V)(H:Hp)(Q:VK):Prop where
 |mk (l:_) (k:_) (xs:_) (h1:x = .ref l) (h2:y = .int k) (h3:H l=some (.lst xs)) (h4:-(2 ^ 63)<=k) (h5:k<2 ^ 63) (h6:xs.length * k.toNat<=sizeLine) (h7:∀ p,H p=none->Q (.ref p) (upd H p (.lst (List.replicate k.toNat xs).flatten)))
noncomputable def rRep:R2:=fun x y H Q=>rRepI x y H Q
theorem len_rep{α:Type}(xs:List α)(k:Nat):(List.replicate k xs).flatten.length=k * xs.length:=by
 induction k with
 |zero=>simp
 |succ k ih=>rw[List.replicate_succ,List.flatten_cons,List.length_append,ih,Nat.succ_mul,Nat.add_comm]
theorem op_rep:OpR X (binaryOp .Mult) rRep:=by
 intro pins s σ H x y v u Q I rx ry h
 obtain⟨l,k,xs,rfl,rfl,hH,h1,h2,hz,q⟩:=h
 cases rx
 obtain⟨t,rfl⟩:=ry
 obtain⟨z,its,n,r,hl,e⟩:=I.lstM hH
 have hlen:its.toArray.size * k.toNat<=sizeLine:=by rw[List.size_toArray,<- hl];exact hz
 have hcap:¬ its.toArray.size * k.toNat > (2 ^ 63-1) / 8:=by
  have:(sizeLine:Nat)<=(2 ^ 63-1) / 8:=by decide
  lia
 have hfit:¬(!Builtin.List.listFitsIndex k)=true:=by
  rw[fitsIndex_both h1 h2]
  exact Bool.false_ne_true
 have hlong:¬ Builtin.List.listTooLong (its.toArray.size * k.toNat)=true:=by
  rw[notLongL hlen]
  exact Bool.false_ne_true
 have hnew:List.foldl (fun x1 x2=>x1++x2) #[] (List.replicate (if its.toArray.isEmpty=true then 0 else k.toNat) its.toArray)=(List.replicate k.toNat its).flatten.toArray:=by
  have f0:∀ m:Nat,List.foldl (fun x1 x2=>x1++x2) #[] (List.replicate m its.toArray)=(List.replicate m its).flatten.toArray:=fun m=>by
   have:=foldl_rep its m []
   rw[List.nil_append]at this
   exact this
  rw[f0]
  cases its with
  |nil=>simp
  |cons a r'=>rw[if_neg (by simp)]
 refine wpAny_binaryOp_repeat_ref (T:="list") (U:="int") (by decide) ⟨_,e,rfl⟩ (fun s'=>typeIs_int s' k t) noFill_list_mul F.fills_int_mul F.slot_int_rmul repeat_list F.slot_int_index.lookup
  (call_meets F.slot_int_rmul (typeIs_int s k t) F.entry_int_rmul (F.args_int_rmul_2 _ _) (int___rmul___int_list k t l its.toArray n)
   ⟨e,rfl,⟨_,e,rfl⟩,call_meets F.slot_list_mul ⟨_,e,rfl⟩ F.entry_list_mul (F.args_list_mul_2 _ _) (AutoListH.list___mul___list_int_3 l its.toArray n k t hfit hcap hlong) ⟨e,?_⟩⟩)
 rw[hnew]
 exact⟨.ref _,_,I.lnew (t':=s.toks) (r.rep k.toNat) (by rw[len_rep,Nat.mul_comm];exact hz),rfl,q _ I.fresh⟩
end
end L2
namespace Att
open PySem PySem.W PySem.Calls PyProof.Rows
theorem ints_of_wellAll{P:Params}{h:Heap}:∀ (ns:List Int) (vs:List Value),WellAll P h vs (ns.map WData.int)->IntsAre vs ns:=by
 intro ns
 induction ns with
 |nil =>
  intro vs w
  rw[List.map_nil]at w
  cases w
  exact .nil
 |cons n ns ih =>
  intro vs w
  rw[List.map_cons]at w
  cases w with
  |cons a b =>
   cases a
   exact .cons _ _ (ih _ b)
theorem script_of{l:OpenLaw}{n:Nat}(hn:l.most=some n){P:Params}{h:Heap}{args:List WData}{vals:List Value}
  (hpre:l.row.toRowW.claim.pre args=true) (hwl:WellAll P h vals args) :
  ∃ a vs ns,vals=[Value.ref a]/\args=[WData.list (ns.map WData.int)]/\h.get? a=some { cls:=.type "list",data:=.seq vs.toArray }/\IntsAre vs ns/\ns.length<=n:=by
 have hsh:WShape.hasAll [] args [.list .int]=true:=(pre_splitW hpre).1
 have hc:l.pre.holds [] { args:=args } = true:=(pre_splitW hpre).2
 obtain⟨d,r,rfl,h1,h2⟩:=hasAllW_cons hsh
 obtain rfl:=hasAllW_nil h2
 obtain⟨xs,rfl,h3⟩:=hasW_list h1
 obtain⟨ns,rfl⟩:=items_int h3
 have hlen:ns.length<=n:=by
  unfold OpenLaw.pre at hc
  have h4:(WTm.not (.lt (.lit (.int (n:Int))) (.len (.arg 0)))).holds [] { args:=[.list (ns.map .int)] } = true:=by
   have h4:=(holds_andW hc).1
   rw[hn]at h4
   exact h4
  have h5:=condW_of h4 (w_not (w_lt w_lit (w_len_list (w_arg rfl))))
  rw[List.length_map]at h5
  refine Nat.le_of_not_lt fun q=>?_
  have q':(n:Int) <((ns.length:Nat):Int):=by omega
  first
   |(rw[decide_eq_true q']at h5;exact absurd h5 (by decide))
   |(simp at h5;omega)
 cases hwl with
 |cons w1 w2 =>
  cases w2
  cases w1 with
  |list ho hall=>exact⟨_,_,ns,rfl,rfl,ho,ints_of_wellAll ns _ hall,hlen⟩
theorem post_true(l:OpenLaw)(args:List WData):l.row.toRowW.claim.post args (.bool true) args=true :=
 postW_of (r:=l.row.toRowW) (X:=(true == true))
  (show WShape.has [] (.bool true) .bool=true by first | rfl | decide | simp[WShape.has,WShape.arms,WShape.armsAll])
  (show(WTm.eq .res (.lit (.bool true))).value [] { args:=args,res:=some (.bool true),after:=args } = some (.bool (true == true))from w_eq_bool (w_res rfl) w_lit) rfl
theorem attach_call{l:OpenLaw}{n:Nat}{q:Program}{loose:List Str}{XP:(Str->Option Value)->Heap->Prop}{YP:World->Heap->Prop}{d:DefRec}
  (hn:l.most=some n) (hdf:d.params.defaults=[])
  (call:∀ (w:World) (s₀ s₁:Shared) (mg mb:Str->Option Value) (fa:Addr) (o:Obj) (pm cd doc:Value) (a:Addr) (vs:List Value) (ns:List Int),
   Ground q loose [] XP w s₀ mg mb s₁.heap->YP w s₁.heap ->
   s₁.heap.get? fa=some o->o.data = .func (docDef d.name d.params d.body d.scope pm cd doc)->s₁.heap.CodeRec cd d.name->mg d.name=some (.ref fa) ->
   s₁.heap.get? a=some { cls:=.type "list",data:=.seq vs.toArray }->IntsAre vs ns->ns.length<=n->s₁.gens = #[] ->
   codeAny (model l.prog w) callerA (.call (.ref fa) ⟨[.ref a],[]⟩) (fun r s'=>r = .ok (.ret (.bool true))/\OldK s₁.heap s'.heap/\s'.os=s₁.os/\AllBare s'.gens) s₁) :
  WalkO q loose XP YP l.row.toRowW d [] (fun f vs=>PySem.call f vs):=by
 intro w s₀ s₁ mg mb G Y fa o pm cd doc dV kV ho hd hcd hD hmg hg args vals as hpre hlay hrd hwl hlo
 obtain rfl:dV = .none:=Dflts.none hD hdf
 obtain rfl:kV = .none:=Dflts.noKw hD
 obtain⟨a,vs,ns,rfl,rfl,hobj,hints,hlen⟩:=script_of hn hpre hwl
 refine enter_call (codeAny_mono (call w s₀ s₁ mg mb fa o pm cd doc a vs ns G Y ho (fd_plain hd) hcd hmg hobj hints hlen hg) fun r s' hq=>?_)
 obtain⟨rfl,h2,h3,h4⟩:=hq
 exact⟨.inl ⟨.bool true,.bool true,[],rfl,fun _=>rfl,.bool true,post_true l _,fun _=>⟨List.Pairwise.nil,fun _ hm=>(nomatch hm)⟩⟩,h2,h3,h4⟩
end Att
namespace L2
open PySem PySem.Spec PyProof.Rows
theorem vals_ints:∀ {vs:List Value}{ns:List Int},IntsAre vs ns->Vals (ns.map V.int) vs
 | _,_,.nil=>.nil
 | _,_,.cons n t h=>.cons ⟨t,rfl⟩ (vals_ints h)
open PySem PySem.Spec PyProof.Rows
open PySem PySem.Spec PyProof.Rows
noncomputable def defArgs(s:Stmt):Arguments:=match s with
 | .FunctionDef _ a _ _ _ _ _ _ _ _=>a
 | _=>{ posonlyargs:=[],args:=[],vararg:=none,kwonlyargs:=[],kw_defaults:=[],kwarg:=none,defaults:=[] }
noncomputable def defBody(s:Stmt):List Stmt:=match s with
 | .FunctionDef _ _ b _ _ _ _ _ _ _=>b
 | _=>[]
noncomputable def defScope(s:Stmt):Scope:=match s with
 | .FunctionDef _ _ _ _ _ _ sc _ _ _=>sc
 | _=>{ kind:=.function,names:=[],isGenerator:=false,isCoroutine:=false }
noncomputable abbrev CX0:CXT:=fun _ _ _ _ _ _=>False
noncomputable abbrev E0:XK:=fun _ _ _=>False
theorem pass0{X:Cx}:Passes CX0 X E0:=fun _ _ _ _ _ _ _ h=>h.elim
structure Fun(K:PySem.W.Frag)(x qual:Str)(st:Stmt)(f:Addr)(fd:FuncData):Prop where
 ex:∃ (oc:Value) (od:Option Addr) (kV doc pm:Value) (an:Option Addr) (cdv ct:Value) (osl:Array (Option Value)),
  fd=PySem.W.fnOf x qual (defArgs st) (defBody st) (defScope st) .none kV doc pm an cdv ct/\K.lookup f=some ⟨oc,od,.func fd,osl⟩/\PySem.W.codeIn K cdv qual=true
 kp:PySem.W.keepIn K (.ref f)=true
section
variable{P:Program}{w:World}{K:PySem.W.Frag}{mg:Str->Option Value}{base:Heap}
theorem Fun.ok{x qual:Str}{st:Stmt}{f:Addr}{fd:FuncData}{N ps:List Str}{k:Nat}{sp:Sp}(F:Fun K x qual st f fd)(S:FnScope N ps (defScope st))(len:∀ vs H Q E,sp vs H Q E->vs.length=ps.length)
  (hbody:∀ (cdv:Value) (A:Around) (outer:List Env) (s:Shared) (H:Hp) (vs:List V) (Q:VK) (E:XK),Room k (A.deeper (envOfC qual (defScope st) s.heap.objs.size f cdv))->sp vs H Q E ->
   ∃ t,PSs (cxOf CX0 P w K mg base N qual (defScope st) f cdv A outer s H E).nox (defBody st) t/\t { nx:=fun _ H'=>Q .non H',rt:=Q } (start N vs) H):FnOk P w K mg base CX0 (k+1) f fd ps sp:=by
 obtain⟨oc,od,kV,doc,pm,an,cdv,ct,osl,rfl,lk,hcd⟩:=F.ex
 refine fn_of lk hcd S len fun A outer s H vs Q E hr hsp=>?_
 obtain⟨t,h,q⟩:=hbody cdv A outer s H vs Q E hr hsp
 exact⟨t,h.nox,q⟩
theorem Fun.binds{x qual:Str}{st:Stmt}{f:Addr}{fd:FuncData}{ps:List Str}(F:Fun K x qual st f fd)
  (h:∀ (kV doc pm:Value) (an:Option Addr) (cdv ct:Value) (us:List Value),us.length=ps.length->bindArgs (PySem.W.fnOf x qual (defArgs st) (defBody st) (defScope st) .none kV doc pm an cdv ct) ⟨us,[]⟩=pure (ps.zip us)):Binds K fd ps []:=by
 obtain⟨oc,od,kV,doc,pm,an,cdv,ct,osl,rfl,lk,hcd⟩:=F.ex
 exact .all (h kV doc pm an cdv ct)
theorem fun_mk{x qual:Str}{st:Stmt}{f:Addr}{oc:Value}{od an:Option Addr}{osl:Array (Option Value)}{kV doc pm cdv ct:Value}(l:K.lookup f=some ⟨oc,od,.func (PySem.W.fnOf x qual (defArgs st) (defBody st) (defScope st) .none kV doc pm an cdv ct),osl⟩)
  (c:PySem.W.codeIn K cdv qual=true) (k:PySem.W.keepIn K (.ref f)=true):Fun K x qual st f (PySem.W.fnOf x qual (defArgs st) (defBody st) (defScope st) .none kV doc pm an cdv ct):=⟨⟨oc,od,kV,doc,pm,an,cdv,ct,osl,rfl,l,c⟩,k⟩
end
theorem hu_of{A:Around}{k:Nat}(hr:Room k A):A.units+1<cLine:=Nat.lt_of_le_of_lt (Nat.add_le_add_left (by decide:1<=64) _) hr.units
section
variable{X:Cx}
theorem pv(i:Nat){x:Str}{pos:Pos}(hN:X.N[i]?=some x:=by rfl)(hv:Vis X.env.scope x:=by first | exact Or.inl rfl | exact Or.inr (Or.inl rfl) | exact Or.inr (Or.inr rfl))(hd:(x ==("__debug__":Str))=false:=by decide)
  (hcd:(x ==("__classdict__":Str))=false:=by decide):PE X (.Name x pos) (tVar i):=pe_var hN hv hd hcd
end
theorem iteF{A B:Prop}(h:B):if false=true then A else B:=by
 rw[if_neg Bool.false_ne_true]
 exact h
theorem iteT{A B:Prop}(h:A):if true=true then A else B:=by
 rw[if_pos rfl]
 exact h
theorem ite2{c A B:Prop}[Decidable c](h1:c->A)(h2:¬ c->B):if c then A else B:=by
 by_cases h:c
 ·rw[if_pos h]
  exact h1 h
 ·rw[if_neg h]
  exact h2 h
noncomputable def Same(H H':Hp):Prop:=∀ b o,H b=some o->H' b=some o
theorem Same.refl(H:Hp):Same H H:=fun _ _ h=>h
theorem Same.trans{H H1 H2:Hp}(a:Same H H1)(b:Same H1 H2):Same H H2:=fun c o h=>b c o (a c o h)
theorem Same.free{H H':Hp}(e:Same H H'){l:Addr}(h:H' l=Option.none):H l=Option.none:=by
 cases q:H l with
 |none=>rfl
 |some o =>
  rw[e l o q]at h
  cases h
theorem Same.seq{K:PySem.W.Frag}{H H':Hp}{a:Addr}{xs:List V}(e:Same H H')(h:SqL K H a xs):SqL K H' a xs:=by
 rcases h with(h |⟨o,h⟩) | h
 ·exact .inl (.inl (e _ _ h))
 ·exact .inl (.inr ⟨o,e _ _ h⟩)
 ·exact .inr h
open PySem PySem.Spec PyProof.Rows
end L2
set_option maxHeartbeats 4000000
namespace L2
open PySem PySem.Spec PyProof.Rows
noncomputable def closCl(cells:List (Str×Addr)):List (Str×NameKind)->List (Str×Addr)->List (Str×Addr)
 |[],acc=>acc
 |(n,k) :: r,acc=>closCl cells r (if k == .free then(n,(cells.lookup n).getD 0) :: acc else acc)
theorem closureFor_cells{scope:Scope}{env:Env}(h:∀ x∈scope.names,x.2 = .free->∃ c,env.cells.lookup x.1=some c) :
  closureFor scope env=pure (closCl env.cells scope.names []):=by
 have gen:∀ (l:List (Str×NameKind)) (acc:List (Str×Addr)),(∀ x∈l,x.2 = .free->∃ c,env.cells.lookup x.1=some c) ->
   (forIn l acc fun(x:Str×NameKind) (cs:List (Str×Addr))=>(do
    if x.2 == .free then
     let c <- cellOf env x.1
     pure (ForInStep.yield ((x.1,c) :: cs))
    else pure (ForInStep.yield cs):Sem (ForInStep (List (Str×Addr)))))=pure (closCl env.cells l acc):=by
  intro l
  induction l with
  |nil=>intro acc _;rfl
  |cons x r ih =>
   intro acc hx
   obtain⟨n,k⟩:=x
   rw[List.forIn_cons]
   have hr:=fun y hy=>hx y (List.mem_cons_of_mem _ hy)
   by_cases hk:k = .free
   ·subst hk
    obtain⟨c,hc⟩:=hx (n,.free) List.mem_cons_self rfl
    have e1:cellOf env n=pure c:=by unfold cellOf;rw[hc]
    simp only[e1,beq_self_eq_true,if_true,pure_bind]
    rw[ih _ hr]
    have hc':env.cells.lookup n=some c:=hc
    simp[closCl,hc']
   ·have hb:(k == NameKind.free)=false:=by simpa using hk
    simp only[hb,Bool.false_eq_true,if_false,pure_bind]
    rw[ih _ hr]
    simp[closCl,hb]
 have g:=gen scope.names [] h
 unfold closureFor
 simp only[bind_pure]
 exact g
theorem closCl_sound{cells:List (Str×Addr)}:∀ (l:List (Str×NameKind)) (acc:List (Str×Addr)),(∀ x∈l,x.2 = .free->∃ c,cells.lookup x.1=some c) ->
  (∀ y c,acc.lookup y=some c->cells.lookup y=some c)->∀ y c,(closCl cells l acc).lookup y=some c->cells.lookup y=some c
 |[],_,_,ha,y,c,e=>ha y c e
 |(n,k) :: r,acc,h,ha,y,c,e=>by
  refine closCl_sound r _ (fun x hx=>h x (List.mem_cons_of_mem _ hx)) ?_ y c e
  intro y c e
  by_cases hk:k = .free
  ·subst hk
   obtain⟨c',hc⟩:=h (n,.free) List.mem_cons_self rfl
   have hc:cells.lookup n=some c':=hc
   simp only[beq_self_eq_true,if_true,List.lookup_cons]at e
   by_cases hy:y == n
   ·have:y=n:=by simpa using hy
    subst this
    simp[hc]at e
    rw[hc,e]
   ·simp only[hy]at e
    exact ha y c e
  ·have hb:(k == NameKind.free)=false:=by simpa using hk
   rw[hb,if_neg (by simp)]at e
   exact ha y c e
theorem closCl_acc{cells:List (Str×Addr)}:∀ (l:List (Str×NameKind)) (acc:List (Str×Addr)) (y:Str),(∃ c,acc.lookup y=some c)->∃ c,(closCl cells l acc).lookup y=some c
 |[],_,_,h=>h
 |(n,k) :: r,acc,y,h=>by
  refine closCl_acc r _ y ?_
  by_cases hk:(k == NameKind.free)=true
  ·rw[if_pos hk,List.lookup_cons]
   by_cases hy:(y == n)=true
   ·rw[hy];exact⟨_,rfl⟩
   ·rw[Bool.eq_false_iff.mpr hy];exact h
  ·rw[if_neg hk];exact h
theorem closCl_has{cells:List (Str×Addr)}:∀ (l:List (Str×NameKind)) (acc:List (Str×Addr)) (y:Str),(y,NameKind.free)∈l->∃ c,(closCl cells l acc).lookup y=some c
 |[],_,_,h=>nomatch h
 |(n,k) :: r,acc,y,h=>by
  rcases List.mem_cons.mp h with e | h
  ·have e1:n=y:=(congrArg Prod.fst e).symm
   have e2:k=NameKind.free:=(congrArg Prod.snd e).symm
   subst e1 e2
   refine closCl_acc r _ n ?_
   rw[if_pos (by rfl),List.lookup_cons,beq_self_eq_true]
   exact⟨_,rfl⟩
  ·exact closCl_has r _ y h
theorem relabel_mem{scope:Scope}{env:Env}:∀ {l:List (Str×NameKind)}{x:Str}{k':NameKind},
  (l.map fun(n,k)=>if(k == NameKind.free && env.scope.kind == .function && env.kindOf n == some .cell)then(n,NameKind.cell)else(n,k)).lookup x=some k' ->
  ∃ k,(x,k)∈l/\(k=k'\/(k = .free/\k' = .cell))
 |[],_,_,h=>by simp at h
 |(n,k) :: r,x,k',h=>by
  rw[List.map_cons]at h
  dsimp only at h
  by_cases hc:(k == NameKind.free && env.scope.kind == .function && env.kindOf n == some .cell)=true
  ·simp only[hc,if_true,List.lookup_cons]at h
   by_cases hx:(x == n)=true
   ·rw[hx]at h
    have:x=n:=by simpa using hx
    subst this
    have hk:k = .free:=by
     rw[Bool.and_eq_true,Bool.and_eq_true]at hc
     simpa using hc.1.1
    exact⟨k,List.mem_cons_self,.inr ⟨hk,by cases h;rfl⟩⟩
   ·rw[Bool.eq_false_iff.mpr hx]at h
    obtain⟨k1,h1,h2⟩:=relabel_mem (scope:=scope) h
    exact⟨k1,List.mem_cons_of_mem _ h1,h2⟩
  ·rw[if_neg hc,List.lookup_cons]at h
   by_cases hx:(x == n)=true
   ·rw[hx]at h
    have:x=n:=by simpa using hx
    subst this
    exact⟨k,List.mem_cons_self,.inl (by cases h;rfl)⟩
   ·rw[Bool.eq_false_iff.mpr hx]at h
    obtain⟨k1,h1,h2⟩:=relabel_mem (scope:=scope) h
    exact⟨k1,List.mem_cons_of_mem _ h1,h2⟩
theorem relabel_free{env:Env}:∀ {l:List (Str×NameKind)}{x:Str},l.lookup x=some .free ->
  (l.map fun(n,k)=>if(k == NameKind.free && env.scope.kind == .function && env.kindOf n == some .cell)then(n,NameKind.cell)else(n,k)).lookup x=some .cell \/
  (l.map fun(n,k)=>if(k == NameKind.free && env.scope.kind == .function && env.kindOf n == some .cell)then(n,NameKind.cell)else(n,k)).lookup x=some .free
 |[],_,h=>by simp at h
 |(n,k) :: r,x,h=>by
  rw[List.map_cons]
  dsimp only
  rw[List.lookup_cons]at h
  by_cases hx:(x == n)=true
  ·rw[hx]at h
   have hk:k = .free:=by cases h;rfl
   by_cases hc:(k == NameKind.free && env.scope.kind == .function && env.kindOf n == some .cell)=true
   ·left;rw[if_pos hc,List.lookup_cons,hx]
   ·right;rw[if_neg hc,List.lookup_cons,hx,hk]
  ·rw[Bool.eq_false_iff.mpr hx]at h
   have ih:=relabel_free (env:=env) h
   by_cases hc:(k == NameKind.free && env.scope.kind == .function && env.kindOf n == some .cell)=true
   ·rw[if_pos hc,List.lookup_cons,Bool.eq_false_iff.mpr hx];exact ih
   ·rw[if_neg hc,List.lookup_cons,Bool.eq_false_iff.mpr hx];exact ih
theorem lookup_mem{α:Type}[BEq α][LawfulBEq α]{β:Type}:∀ {l:List (α×β)}{x:α}{k:β},l.lookup x=some k->(x,k)∈l
 |[],_,_,h=>by simp at h
 |(n,k') :: r,x,k,h=>by
  rw[List.lookup_cons]at h
  by_cases hx:(x == n)=true
  ·rw[hx]at h
   have:x=n:=by simpa using hx
   subst this
   cases h
   exact List.mem_cons_self
  ·rw[Bool.eq_false_iff.mpr hx]at h
   exact List.mem_cons_of_mem _ (lookup_mem h)
noncomputable def cxIn(X:Cx)(N':List Str)(scope:Scope)(C:Addr)(s2:Shared)(H2:Hp)(fp:List Addr):Cx :=
 { X with N:=N',s₀:=s2,H₀:=H2,env:=compEnvC scope (closCl X.env.cells scope.names []) C X.env,outer:=X.stack,ex:=fp,fn:=fun _=>false,xe:=fun _ _=>False }
noncomputable def capt(cap:List (Option Nat))(σ:St):St:=cap.map fun o=>o.bind fun j=>(σ[j]?).join
structure CompScope(N':List Str)(cap:List (Option Nat))(N:List Str)(sc0 scope:Scope):Prop where
 kind:scope.kind = .function
 nocell:∀ x∈scope.names,x.2≠.cell
 loc:∀ x∈scope.names,x.2 = .local->scope.names.lookup x.1=some .local
 fre:∀ x∈scope.names,x.2 = .free->sc0.names.lookup x.1=some .cell\/sc0.names.lookup x.1=some .free
 len:cap.length=N'.length
 cap:∀ j∈List.range cap.length,match cap[j]? with
  |some (some i)=>match N'[j]? with
   |some x=>N[i]?=some x/\scope.names.lookup x=some .free
   |none=>False
  | _=>True
section
variable{X:Cx}{N':List Str}{cap:List (Option Nat)}{scope:Scope}{C:Addr}{s2 s4:Shared}{H2:Hp}{fp:List Addr}{pins:List (Addr×Obj)}{σ:St}
theorem CompScope.clos(S:CompScope N' cap X.N X.env.scope scope)(I:Inv X pins σ H2 s2):∀ x∈scope.names,x.2 = .free->∃ c,X.env.cells.lookup x.1=some c :=
 fun x hx hf=>I.ok.has x.1 (S.fre x hx hf)
theorem cxIn_ok(S:CompScope N' cap X.N X.env.scope scope)(I:Inv X pins σ H2 s2)(hC:s2.heap.objs.size<=C)(hfp:∀ b∈fp,FpOk X pins H2 b)(hfo:∀ b∈fp,∃ o,s2.heap.get? b=some o):(cxIn X N' scope C s2 H2 fp).Ok where
 mod:=I.ok.mod
 kind:=S.kind
 glob:=I.ok.glob
 blt:=I.ok.blt
 above:=hC
 inj:=fun x y c e1 e2=>I.ok.inj x y c (closCl_sound _ _ (S.clos I) (fun y c e=>by simp at e) x c e1) (closCl_sound _ _ (S.clos I) (fun y c e=>by simp at e) y c e2)
 has:=fun x h=>by
  have hm:(x,NameKind.free)∈scope.names:=by
   rcases h with h | h
   ·obtain⟨k,hk,e |⟨e,_⟩⟩:=relabel_mem (scope:=scope) (l:=scope.names) h
    ·subst e;exact absurd rfl (S.nocell _ hk)
    ·subst e;exact hk
   ·obtain⟨k,hk,e |⟨_,e⟩⟩:=relabel_mem (scope:=scope) (l:=scope.names) h
    ·subst e;exact hk
    ·cases e
  exact closCl_has _ _ x hm
 cab:=fun _ _ h _=>nomatch h
 hd:=I.ok.hd
 frames:=I.ok.frames
 stk:=.inl rfl
 exf:=fun b hb=>⟨fun z=>by
   obtain⟨o,ho⟩:=hfo b hb
   have h1:=Nat.lt_of_lt_of_le (Heap.lt_size ho) hC
   have z:b=C:=z
   rw[z]at h1
   exact Nat.lt_irrefl _ h1,fun x c e=>(hfp b hb).2.2.2.2.1 x c (closCl_sound _ _ (S.clos I) (fun y c e=>by simp at e) x c e)⟩
 bs:=I.bs
 bsz:=Nat.le_trans I.ok.bsz I.sz
 noex:=fun b o e hb=>by
  rcases(hfp b hb).2.2.2.1 with z | z
  ·exact I.ok.noex b o e z
  ·exact absurd (Nat.lt_of_lt_of_le (Heap.lt_size e) (Nat.le_trans I.ok.bsz z)) (Nat.lt_irrefl _)
 exfs:=fun b hb z=>by
  rcases List.mem_cons.mp (I.stkSub b z)with e | e
  ·exact(hfp b hb).2.1 e
  ·exact(hfp b hb).2.2.1 e
 funs:=I.stack
 frf:=I.stkFree
theorem cxIn_inv(S:CompScope N' cap X.N X.env.scope scope)(I:Inv X pins σ H2 s2)(hC:s2.heap.objs.size<=C)(hfp:∀ b∈fp,FpOk X pins H2 b)(hfo:∀ b∈fp,∃ o,s2.heap.get? b=some o)
  (ho:s4.os=s2.os) (hg:s4.gens=s2.gens) (k:∀ b o,s2.heap.get? b=some o->s4.heap.get? b=some o) {m:Str->Option Value} (hn:s4.heap.Ns C m) {D:Addr}{oD:Obj}
  (hD:s4.heap.get? D=some oD) (hDs:s2.heap.objs.size<=D) (hDC:D≠C) (hDc:∀ v,oD.data≠.cell v) :
  Inv (cxIn X N' scope C s2 H2 fp) (pins++[(D,oD)]) (capt cap σ) H2 s4 where
 ok:=cxIn_ok S I hC hfp hfo
 os:=ho
 bare:=by rw[hg];exact I.bare
 base:=Un.kept k
 loc:=by
  refine⟨m,hn,fun j x v e1 e2 _=>?_⟩
  have hj:j<cap.length:=by rw[S.len];exact(List.getElem?_eq_some_iff.mp e1).1
  have e1:N'[j]?=some x:=e1
  have hc:=S.cap j (List.mem_range.mpr hj)
  unfold capt at e2
  rw[List.getElem?_map]at e2
  cases hq:cap[j]? with
  |none=>rw[hq]at e2;cases e2
  |some o =>
   rw[hq]at e2 hc
   cases o with
   |none=>cases e2
   |some i =>
    simp only[e1]at hc
    obtain⟨hN,hfr⟩:=hc
    have e3:σ[i]?=some (some v):=by
     have e2:(σ[i]?).join=some v:=Option.some.inj e2
     cases hs:σ[i]? with
     |none=>rw[hs]at e2;cases e2
     |some w=>rw[hs]at e2;have e2:w=some v:=e2;rw[e2]
    have hm:=lookup_mem hfr
    have hk:=S.fre _ hm rfl
    obtain⟨m0,hn0,hl0⟩:=I.loc
    obtain⟨u,r,l⟩:=hl0 i x v hN e3 (.inr hk)
    refine⟨u,r,?_⟩
    rcases l with⟨l,_⟩ |⟨_,c,e,z⟩
    ·rcases hk with hk | hk
     ·rw[show X.env.kindOf x=some .cell from hk]at l;cases l
     ·rw[show X.env.kindOf x=some .free from hk]at l;cases l
    ·obtain⟨c',hc'⟩:=closCl_has (cells:=X.env.cells) scope.names [] x hm
     have hs:=closCl_sound scope.names [] (S.clos I) (fun y c e=>by simp at e) x c' hc'
     rw[e]at hs
     cases hs
     refine .inr ⟨relabel_free hfr,c,hc',?_⟩
     obtain⟨oc,ho',hd'⟩:=z
     exact⟨oc,k _ _ ho',hd'⟩
 cell:=fun x c e=>by
  obtain⟨v,oc,ho',hd'⟩:=I.cell x c (closCl_sound scope.names [] (S.clos I) (fun y c e=>by simp at e) x c e)
  exact⟨v,oc,k _ _ ho',hd'⟩
 free:=I.hok.fresh hC
 freeC:=fun x c e=>I.freeC x c (closCl_sound scope.names [] (S.clos I) (fun y c e=>by simp at e) x c e)
 pin:=fun p hp=>by
  have hp:p∈X.pn++(pins++[(D,oD)]):=hp
  have cne:∀ b o,s2.heap.get? b=some o->b≠C:=fun b o e z=>by
   have h1:=Nat.lt_of_lt_of_le (Heap.lt_size e) hC
   rw[z]at h1
   exact Nat.lt_irrefl _ h1
  rw[<- List.append_assoc]at hp
  rcases List.mem_append.mp hp with hp | hp
  ·obtain⟨e,n,ne,nf,d⟩:=I.pin p hp
   exact⟨k _ _ e,n,cne _ _ e,fun z=>by
    rcases List.mem_cons.mp (I.stkSub p.1 z)with e | e
    ·exact ne e
    ·exact nf e,d⟩
  ·have e:p=(D,oD):=by simpa using hp
   subst e
   refine⟨hD,I.hok.fresh hDs,hDC,fun z=>?_,hDc⟩
   rcases List.mem_cons.mp (I.stkSub D z)with e | e
   ·have h1:=Nat.lt_of_lt_of_le I.lt hDs
    rw[e]at h1
    exact Nat.lt_irrefl _ h1
   ·exact I.nofs hDs e
 hok:=I.hok.kept k
 len:=by unfold capt;rw[List.length_map];exact S.len
end
noncomputable def PF(X:Cx)(ifs:List Expr)(t:TT):Prop :=
 ∀ (pins:List (Addr×Obj)) (s:Shared) (σ:St) (H:Hp) (Q:Bool->Hp->Prop),Inv X pins σ H s->t σ H Q ->
  wpAny (model X.prog X.w) X.A (forIn ifs true fun c r=>if r=true then do let ok <- isTrue c X.env (eval c X.env);pure (ForInStep.yield ok)else pure (ForInStep.yield r)) (TP X pins σ Q) X.xe s
noncomputable def tTru:TT:=fun _ H Q=>Q true H
theorem pf_nil{X:Cx}:PF X [] tTru:=fun _ _ _ H _ I h=>wpAny_tests_nil ⟨H,I,h⟩
theorem pf_one{X:Cx}{c:Expr}{t:TT}(h:PT X c t):PF X [c] t:=fun pins s σ H Q I q=>wpAny_tests_one (h pins s σ H Q I q)
section
variable{prog:Program}{w:World}{A:Around}{E:Value->Shared->Prop}{R:Result->Shared->Prop}{s:Shared}
theorem codeAny_compLoop_any{elt target iter:Expr}{ifs:List Expr}{scope:Scope}{pos:Pos}{it acc:Value}{env:Env}(I:Nat->Shared->Prop)
  (turn:∀ n s,I n s->wpAny (model prog w) A (pyNext it) (fun r s₁=>match r with
   |none=>R (.ok .next) s₁
   |some v=>wpAny (model prog w) A (letOwnedTupleGo target it v) (fun _ s₁'=>wpAny (model prog w) A (assign target env v) (fun _ s₂ =>
     wpAny (model prog w) A (forIn ifs true fun c r=>if r=true then do let ok <- isTrue c env (eval c env);pure (ForInStep.yield ok)else pure (ForInStep.yield r)) (fun ok s₃ =>
      if ok=true then wpAny (model prog w) A (eval elt env) (fun x s₄ =>
       wpAny (model prog w) A (call (.builtin "list.append") [acc,x]) (fun _ s₅=>∃ m,m<n/\I m s₅) (fun _ _=>False) s₄) (fun _ _=>False) s₃
      else ∃ m,m<n/\I m s₃) (fun _ _=>False) s₂) (fun _ _=>False) s₁') (fun _ _=>False) s₁) (fun _ _=>False) s)
  (n:Nat) (h:I n s) :
  codeAny (model prog w) A (.compLoop (.ListComp elt [⟨target,iter,ifs,0⟩] scope pos) 0 it acc env) R s:=by
 refine codeAny_loop rfl I (fun n s hI=>?_) n h
 show wpAny _ A ((compTurn (.ListComp elt [⟨target,iter,ifs,0⟩] scope pos) 0 it acc env).onRaise (fun x=>do noteFrame x env;theTreesLotGoes x)) _ _ s
 refine wpAny_noted ?_
 rw[compTurn_list]
 refine wpAny_bind (wpAny_standAt (wpAny_bind (wpAny_mono (turn n s hI) (fun r s₁ h₁=>?_) fun _ _ h'=>h'.elim)))
 cases r with
 |none=>exact wpAny_pure h₁
 |some v =>
  refine wpAny_bind (wpAny_mono h₁ (fun _ s₁' h₁'=>?_) fun _ _ h'=>h'.elim)
  refine wpAny_bind (wpAny_mono h₁' (fun _ s₂ h₂=>wpAny_bind (wpAny_mono h₂ (fun ok s₃ h₃=>?_) fun _ _ h'=>h'.elim)) fun _ _ h'=>h'.elim)
  cases ok with
  |false=>exact wpAny_pure ⟨rfl,h₃⟩
  |true =>
   exact wpAny_bind (wpAny_bind (wpAny_mono h₃ (fun x s₄ h₄=>wpAny_bind (wpAny_mono h₄ (fun _ s₅ h₅=>wpAny_pure (wpAny_pure ⟨rfl,h₅⟩)) fun _ _ h'=>h'.elim)) fun _ _ h'=>h'.elim))
end
noncomputable def Kp:St->St->Prop
 |[],[]=>True
 |none :: r,_ :: r'=>Kp r r'
 |some v :: r,o :: r'=>o=some v/\Kp r r'
 | _,_=>False
theorem Kp.length:∀ {a b:St},Kp a b->a.length=b.length
 |[],[],_=>rfl
 |none :: r,_ :: r',h=>congrArg (· + 1) (Kp.length (a:=r) (b:=r') h)
 |some v :: r,o :: r',h=>congrArg (· + 1) (Kp.length (a:=r) (b:=r') h.2)
 |[],_ :: _,h=>h.elim
 |none :: _,[],h=>h.elim
 |some _ :: _,[],h=>h.elim
theorem Kp.get:∀ {a b:St},Kp a b->∀ (i:Nat) (v:V),a[i]?=some (some v)->b[i]?=some (some v)
 |[],[],_,i,v,e=>e
 |none :: r,_ :: r',h,0,v,e=>by simp at e
 |none :: r,_ :: r',h,i+1,v,e=>by simpa using Kp.get (a:=r) (b:=r') h i v (by simpa using e)
 |some w :: r,o :: r',h,0,v,e=>by rw[h.1];simpa using e
 |some w :: r,o :: r',h,i+1,v,e=>by simpa using Kp.get (a:=r) (b:=r') h.2 i v (by simpa using e)
 |[],_ :: _,h,_,_,_=>h.elim
 |none :: _,[],h,_,_,_=>h.elim
 |some _ :: _,[],h,_,_,_=>h.elim
noncomputable def compTurns(J:It)(cap:List (Option Nat))(σ:St)(H1:Hp)(Q:VK)(g:TG)(tc:TT)(te:TE):Prop:=∃ (n:Nat) (P:Nat->List V->Hp->Prop),n<=sizeLine/\P 0 [] H1 /\
 ∀ i ys H,ys.length<=i->i<=n->P i ys H->(J.stop i H/\∀ D,H D=none->Q (.ref D) (upd H D (.lst ys))) \/
  (i<n/\J.go i H/\∀ x H',J.yld i H x H'->g x (capt cap σ) H' fun σ2 H2=>Kp (capt cap σ) σ2/\tc σ2 H2 fun b H3=>if b=true then te σ2 H3 fun y H4=>P (i+1) (ys++[y]) H4 else P (i+1) ys H3)
noncomputable def tComp(cap:List (Option Nat))(wi:TI)(g:TG)(tc:TT)(te:TE):TE:=fun σ H Q=>wi σ H fun J H1=>compTurns J cap σ H1 Q g tc te
noncomputable def CompEnd(X:Cx)(pins:List (Addr×Obj))(σ:St)(Q:VK)(acc:Value)(C:Addr)(r:Result)(s':Shared):Prop :=
 match r with
 | .ok _=>∃ v H',Inv X pins σ H' s'/\RelV v acc/\Q v H'/\(∃ m,s'.heap.Ns C m)/\FpOk X pins H' C
 | .error _=>False
section
variable{X:Cx}{elt tg iter:Expr}{ifs:List Expr}{scope:Scope}{pos:Pos}{N':List Str}{cap:List (Option Nat)}{wi:TI}{g:TG}{tc:TT}{te:TE}
theorem comp_run(hc:X.calm=true)(S:CompScope N' cap X.N X.env.scope scope)(hi:PI X tg iter wi)(hg:∀ C s H fp,PG (cxIn X N' scope C s H fp) tg g)
  (ht:∀ C s H fp,PF (cxIn X N' scope C s H fp) ifs tc) (he:∀ C s H fp,PE (cxIn X N' scope C s H fp) elt te)
  {pins:List (Addr×Obj)}{s:Shared}{σ:St}{H:Hp}{Q:VK} (I:Inv X pins σ H s) (h:tComp cap wi g tc te σ H Q) :
  wpAny (model X.prog X.w) X.A (eval iter X.env) (fun x s₁=>wpAny (model X.prog X.w) X.A (pyIter x) (fun it s₂=>wpAny (model X.prog X.w) X.A (newList []) (fun acc s₃ =>
   wpAny (model X.prog X.w) X.A (newFunctionEnv scope X.env.globals (closCl X.env.cells scope.names []) [] X.env.qual none .none (some X.env)) (fun cenv s₄ =>
    codeAny (model X.prog X.w) X.A (.compStart (.ListComp elt [⟨tg,iter,ifs,0⟩] scope pos) 0 it acc { cenv with scope:=relabel scope X.env }) (CompEnd X pins σ Q acc cenv.locals) s₄) X.xe s₃) X.xe s₂) X.xe s₁) X.xe s:=by
 refine thn (hi pins s σ H _ I h) fun v s1 h1=>thn h1 fun itv s2 h2=>?_
 obtain⟨it,fp,tn,J,H2,e,I2,T,st2,f2,n,P,hn,p0,turn⟩:=h2
 subst e
 refine wpAny_newObj_type (wpAny_newFunctionEnv S.nocell (by intro y hy;simp at hy) (fun h₁ hns₁ hsb₁=>?_) S.kind)
 dsimp only at hns₁ hsb₁ ⊢
 generalize hHp:s2.heap.push { cls:=.type "list",dict:=none,data:=.seq ([]:List Value).toArray } = Hq at hns₁ hsb₁ ⊢
 have hC:Hq.objs.size=s2.heap.objs.size+1:=by rw[<- hHp,Heap.size_push]
 have hDC:s2.heap.objs.size≠Hq.objs.size:=by rw[hC];exact Nat.ne_of_lt (Nat.lt_succ_self _)
 have hCle:s2.heap.objs.size<=Hq.objs.size:=by rw[hC];exact Nat.le_succ _
 have old:∀ b o,s2.heap.get? b=some o->h₁.get? b=some o:=fun b o e =>
  hsb₁.extBut b o (by rw[hC];exact Nat.ne_of_lt (Nat.lt_succ_of_lt (Heap.lt_size e))) (Heap.get?_push_of_some _ (hHp▸Heap.get?_push_of_some _ e))
 have hacc:h₁.PlainList s2.heap.objs.size #[]:=⟨_,hsb₁.extBut _ _ hDC (Heap.get?_push_of_some _ (hHp▸Heap.get?_push_size _ rfl))⟩
 have hfo:∀ b∈fp,∃ o,s2.heap.get? b=some o:=fun b hb=>let ⟨o,e,_⟩:=T.obj _ _ st2 b hb;⟨o,e⟩
 have st4:tn 0 h₁:=T.keep _ _ _ st2 fun b _ o e=>old b o e
 let D:Addr:=s2.heap.objs.size
 let C:Addr:=Hq.objs.size
 let Y:Cx:=cxIn X N' scope C s2 H2 fp
 have hDfp:D∉fp:=fun hb=>by
  obtain⟨o,e⟩:=hfo D hb
  exact Nat.lt_irrefl _ (Heap.lt_size e)
 -- the iterator's objects,seen from within
 have stat:∀ {H':Hp}{oD:Obj},(∀ b∈fp,H' b=none)->∀ b∈fp,FpOk Y (pins++[(D,oD)]) H' b:=fun {H' oD} hn b hb=>by
  obtain⟨f0,f1,fx,f3,f4,f5⟩:=f2 b hb
  obtain⟨o,e⟩:=hfo b hb
  refine⟨hn b hb,fun z=>?_,fun z=>?_,.inl hb,fun x c e=>f4 x c (closCl_sound _ _ (S.clos I2) (fun y c e=>by simp at e) x c e),fun p hp=>?_⟩
  ·have h1:=Nat.lt_of_lt_of_le (Heap.lt_size e) hCle
   have z:b=Hq.objs.size:=z
   rw[z]at h1
   exact Nat.lt_irrefl _ h1
  ·rcases List.mem_cons.mp (I2.stkSub b z)with e | e
   ·exact f1 e
   ·exact fx e
  ·have hp:p∈X.pn++(pins++[(D,oD)]):=hp
   rw[<- List.append_assoc]at hp
   rcases List.mem_append.mp hp with hp | hp
   ·exact f5 p hp
   ·have q:p=(D,oD):=by simpa using hp
    subst q
    exact fun z=>hDfp (by rw[show D=b from z];exact hb)
 have loop:∀ s₃:Shared,s₃ = { s2 with heap:=h₁,toks:=s2.toks+([]:List (Str×Value)).length } ->
   codeAny (model X.prog X.w) X.A (.compLoop (.ListComp elt [⟨tg,iter,ifs,0⟩] scope pos) 0 (.ref it) (.ref s2.heap.objs.size) (compEnvC scope (closCl X.env.cells scope.names []) Hq.objs.size X.env))
    (CompEnd X pins σ Q (.ref s2.heap.objs.size) Hq.objs.size) s₃:=by
  rintro s₃ rfl
  have cellD:∀ x c,Y.env.cells.lookup x=some c->c≠D:=fun x c e z=>by
   obtain⟨v,q⟩:=I2.cell x c (closCl_sound _ _ (S.clos I2) (fun y c e=>by simp at e) x c e)
   have h1:=q.lt
   rw[show c=s2.heap.objs.size from z]at h1
   exact Nat.lt_irrefl _ h1
  have pinD:∀ p∈X.pn++pins,p.1≠D:=fun p hp z=>by
   have h1:=Heap.lt_size (I2.pin p hp).1
   rw[show p.1=s2.heap.objs.size from z]at h1
   exact Nat.lt_irrefl _ h1
  have inD:∀ {pl:List (Addr×Obj)}{oD:Obj},(D,oD)∈Y.pn++((pins++[(D,oD)])++pl):=fun {pl oD}=>List.mem_append_right _ (List.mem_append_left _ (List.mem_append_right _ (by simp)))
  have inF:∀ {pl:List (Addr×Obj)}{oD:Obj}{p:Addr×Obj},p∈pl->p∈Y.pn++((pins++[(D,oD)])++pl):=fun {pl oD p} hp=>List.mem_append_right _ (List.mem_append_right _ hp)
  refine codeAny_compLoop_any (fun m s'=>∃ i ys H' its ep,m=n-i/\i<=n/\ys.length<=i/\Vals ys its/\Inv Y (pins++[(D,{ cls:=.type "list",data:=.seq its.toArray ep })]) (capt cap σ) H' s'/\tn i s'.heap/\(∀ b∈fp,H' b=none)/\P i ys H') ?_ n ?_
  ·rintro m s3 ⟨i,ys,H3,its,ep,rfl,hin,hyl,rv,I3,st3,fr3,p3⟩
   rcases turn i ys H3 hyl hin p3 with⟨stop,q⟩ |⟨hlt,go,step⟩
   ·refine thn (T.done Y rfl rfl rfl hc i _ s3 _ H3 (fun _ _=>False) I3 (stat fr3) st3 stop) fun r s4 ⟨hr,I4⟩=>?_
    subst hr
    obtain⟨eD,nD,_⟩:=I4.pin (D,{ cls:=.type "list",data:=.seq its.toArray ep }) (List.mem_append_right _ (List.mem_append_right _ (by simp)))
    have nD:H3 D=none:=nD
    have okn:ObjOk X.prog X.w (upd H3 D (.lst ys)) s4.heap D (.lst ys):=⟨Nat.le_trans hyl (Nat.le_trans hin hn),its,ep,rv,eD⟩
    have hok:HOk X.prog X.w (upd H3 D (.lst ys)) s4.heap:=fun b u e=>by
     by_cases hb:b=D
     ·subst hb;rw[upd_same]at e;cases e;exact okn
     ·rw[upd_ne hb]at e
      exact(I4.hok b u e).stay (fun c v _ q=>q) (fun c q=>by rw[upd_ne (ne_of_none q nD)];exact q) fun c xs q=>by rw[upd_ne (ne_of_none q nD)];exact q
    have B:=I4.base
    have u:Un (frs X.stack) fp H2 (upd H3 D (.lst ys)) s2.heap s4.heap :=
     ⟨B.keep,B.slot,fun b o e n hx=>by rw[upd_ne (Nat.ne_of_lt (Heap.lt_size e))];exact B.free b o e n hx,B.there,fun b xs e=>by rw[upd_ne (ne_of_none (B.tups b xs e) nD)];exact B.tups b xs e,
      fun b o xs e=>by rw[upd_ne (ne_of_none (B.frzs b o xs e) nD)];exact B.frzs b o xs e,fun b ps e=>by
       obtain⟨more,z⟩:=B.tbls b ps e
       exact⟨more,by rw[upd_ne (ne_of_none z nD)];exact z⟩⟩
    have IX:Inv X pins σ (upd H3 D (.lst ys)) s4:=I2.call' (ch:=fp) I4.os u hok I4.bare fun b hb=>by
     obtain⟨f0,f1,fx,f3,f4,f5⟩:=f2 b hb
     exact⟨f3,f1,f4,f5⟩
    have nC:(upd H3 D (.lst ys)) Hq.objs.size=none:=by rw[upd_ne (Ne.symm hDC)];exact I4.free
    obtain⟨m',hm',_⟩:=I4.loc
    exact⟨.ref D,_,IX,rfl,q D nD,⟨m',hm'⟩,I2.fpOk hCle nC⟩
   ·refine thn (T.item Y rfl rfl rfl hc i _ s3 _ H3 (fun _ _=>False) I3 (stat fr3) st3 go) fun r s4 ⟨u,hr,h4⟩=>?_
    subst hr
    refine thn h4 fun _ s5 ⟨x,H5,I5,r5,y5,st5,fr5⟩=>?_
    have I5':=I5.pinned (stat fr5) (T.obj _ _ st5)
    refine thn (hg C s2 H2 fp _ s5 _ H5 x u _ I5' r5 (step x H5 y5)) fun _ s6 ⟨σ6,H6,I6,kp,q6⟩=>?_
    refine thn (ht C s2 H2 fp _ s6 σ6 H6 _ I6 q6) fun b s7 ⟨H7,I7,q7⟩=>?_
    cases b with
    |false =>
     rw[if_neg Bool.false_ne_true]at q7 ⊢
     refine⟨n-(i+1),Nat.sub_succ_lt_self n i hlt,i+1,ys,H7,its,ep,rfl,hlt,Nat.le_succ_of_le hyl,rv,I7.unpinned.weak kp.length kp.get,?_,fun b hb=>?_,q7⟩
     ·exact T.keep _ _ _ st5 fun b hb o e=>(I7.pin (b,o) (inF (mem_pinsAt hb e))).1
     ·obtain⟨o,e,d⟩:=T.obj _ _ st5 b hb
      exact(I7.pin (b,o) (inF (mem_pinsAt hb e))).2.1
    |true =>
     rw[if_pos rfl]at q7 ⊢
     refine thn (he C s2 H2 fp _ s7 σ6 H7 _ I7 q7) fun yv s8 ⟨y,H8,I8,r8,q8⟩=>?_
     obtain⟨eD,nD,_⟩:=I8.pin (D,{ cls:=.type "list",data:=.seq its.toArray ep }) inD
     have hsz:its.toArray.size<=sizeLine:=by
      rw[List.size_toArray,<- rv.length]
      exact Nat.le_trans hyl (Nat.le_trans hin hn)
     refine wpAny_list_append_plain (items:=its.toArray) ⟨ep,eD⟩ (fun h9 pl9 sb9=>?_) hsz
     obtain⟨ep',e9⟩:=pl9
     have e9:h9.get? D=some { cls:=.type "list",data:=.seq (its++[yv]).toArray ep' }:=by rw[e9];simp
     have Ia:Inv Y pins σ6 H8 s8:=I8.pins_of fun p hp=>I8.pin p (List.mem_append_right _ (List.mem_append_left _ (List.mem_append_left _ hp)))
     have Ib:Inv Y pins σ6 H8 { s8 with heap:=h9 }:=Ia.turned (it:=D) (t':=s8.toks) (fun b o hb e=>(sb9.2 b hb).trans e) nD hDC (.inr (Nat.le_refl _)) cellD pinD
     have Ic:Inv Y (pins++[(D,{ cls:=.type "list",data:=.seq (its++[yv]).toArray ep' })]) σ6 H8 { s8 with heap:=h9 }:=Ib.pins_of fun p hp=>by
      rcases List.mem_append.mp hp with hp | hp
      ·exact Ib.pin p (List.mem_append_right _ hp)
      ·have q:p=(D,{ cls:=.type "list",data:=.seq (its++[yv]).toArray ep' }):=by simpa using hp
       subst q
       obtain⟨_,_,z1,z2,_⟩:=I8.pin (D,{ cls:=.type "list",data:=.seq its.toArray ep }) inD
       exact⟨e9,nD,z1,z2,fun v z=>by cases z⟩
     refine⟨n-(i+1),Nat.sub_succ_lt_self n i hlt,i+1,ys++[y],H8,its++[yv],ep',rfl,hlt,by simp;omega,Vals.append rv (.cons r8 .nil),Ic.weak kp.length kp.get,?_,fun b hb=>?_,q8⟩
     ·exact T.keep _ _ _ st5 fun b hb o e=>sb9.extBut b o (fun z=>hDfp (by rw[show D=b from Eq.symm z];exact hb)) (I8.pin (b,o) (inF (mem_pinsAt hb e))).1
     ·obtain⟨o,e,d⟩:=T.obj _ _ st5 b hb
      exact(I8.pin (b,o) (inF (mem_pinsAt hb e))).2.1
  ·obtain⟨ep,e⟩:=hacc
   refine⟨0,[],H2,[],ep,rfl,Nat.zero_le _,Nat.le_refl _,.nil,?_,st4,fun b hb=>(f2 b hb).1,p0⟩
   exact cxIn_inv (s4:={ s2 with heap:=h₁,toks:=s2.toks+([]:List (Str×Value)).length }) S I2 hCle f2 hfo rfl rfl old hns₁ e (Nat.le_refl _) hDC fun v z=>by cases z
 exact codeAny_compStart_list (loop _ rfl) (T.self X.A 0 _ _ _ st4 (loop _ rfl))
theorem pe_comp(hc:X.calm=true)(S:CompScope N' cap X.N X.env.scope scope)(hi:PI X tg iter wi)(hg:∀ C s H fp,PG (cxIn X N' scope C s H fp) tg g)
  (ht:∀ C s H fp,PF (cxIn X N' scope C s H fp) ifs tc) (he:∀ C s H fp,PE (cxIn X N' scope C s H fp) elt te)
  (hs:∀ x,foldedSetIterable iter X.env x=pure x:=by intro _;rfl):PE X (.ListComp elt [⟨tg,iter,ifs,0⟩] scope pos) (tComp cap wi g tc te):=by
 intro pins s σ H Q I h
 rw[eval_ListComp]
 refine wpAny_comprehension_free (use:=none) rfl hs (closureFor_cells (S.clos I)) S.kind S.loc (thn (comp_run (pos:=pos) hc S hi hg ht he I h) fun x s1 h1=>thn h1 fun it s2 h2=>thn h2 fun acc s3 h3=>thn h3 fun cenv s4 h4=>?_)
 refine codeAny_mono h4 fun r s' hr=>?_
 cases r with
 |error x=>exact hr.elim
 |ok f =>
  obtain⟨v,H',I',rv,q,⟨m,hn⟩,f0,f1,f2,f3,f4,f5⟩:=hr
  refine⟨m,hn,fun h' sb=>⟨v,H',I'.turned (it:=cenv.locals) (t':=s'.toks) (fun b o hb e=>(sb.2 b hb).trans e) f0 f1 f3 f4 f5,rv,q⟩⟩
theorem ps_comp{i:Nat}{x:Str}{pos' spos:Pos}(hN:X.N.Nodup)(hx:X.N[i]?=some x)(hl:Loc X.env.scope x)(hc:X.calm=true)(S:CompScope N' cap X.N X.env.scope scope)(hi:PI X tg iter wi)(hg:∀ C s H fp,PG (cxIn X N' scope C s H fp) tg g)
  (ht:∀ C s H fp,PF (cxIn X N' scope C s H fp) ifs tc) (he:∀ C s H fp,PE (cxIn X N' scope C s H fp) elt te)
  (hs:∀ x,foldedSetIterable iter X.env x=pure x:=by intro _;rfl) (hsw:swapsWith (.ListComp elt [⟨tg,iter,ifs,0⟩] scope pos) (some (.Name x pos')) spos.line X.env=pure true:=by rfl)
  (hf:X.fn x=true\/X.env.scope.names.lookup x=some .local:=by first | exact .inl rfl | exact .inr rfl | assumption) :
  PS X (.Assign [.Name x pos'] (.ListComp elt [⟨tg,iter,ifs,0⟩] scope pos) spos) (tAsg (tComp cap wi g tc te) (gName i)):=by
 intro pins s σ H D I h
 rw[exec_Assign_Name_used _ _ _ _ hsw]
 refine wpAny_bind (wpAny_standAt (wpAny_bind ?_))
 show wpAny _ _ (do let _ <- comprehension (.ListComp elt [⟨tg,iter,ifs,0⟩] scope pos) scope X.env _ (newList []) false (eval iter X.env) (some (assign (.Name x pos') X.env))) _ _ s
 refine wpAny_bind (wpAny_mono (wpAny_comprehension_free (use:=some (assign (.Name x pos') X.env)) (Q:=fun _ s'=>SP X pins D .next s') rfl hs (closureFor_cells (S.clos I)) S.kind S.loc
  (thn (comp_run (pos:=pos) hc S hi hg ht he I h) fun x s1 h1=>thn h1 fun it s2 h2=>thn h2 fun acc s3 h3=>thn h3 fun cenv s4 h4=>?_)) (fun _ s' hq=>wpAny_pure (wpAny_pure hq)) fun _ _ e=>e)
 refine codeAny_mono h4 fun r s' hr=>?_
 cases r with
 |error x=>exact hr.elim
 |ok f =>
  obtain⟨v,H',I',rv,q,⟨m,hn⟩,f0,f1,f2,f3,f4,f5⟩:=hr
  show wpAny _ _ (assign (.Name _ pos') X.env acc) _ _ _
  refine wpAny_assign_Name (store_ok2 I' hN hx hl rv (fun s'' I'' ⟨a,sb,ha⟩=>?_) hf)
  have hac:cenv.locals≠a:=by
   rcases ha with ha | ha
   ·rw[ha];exact f1
   ·exact Ne.symm (f4 _ a ha)
  refine⟨m,hn.sameBut sb hac,fun h' sb'=>⟨_,H',I''.turned (it:=cenv.locals) (t':=s''.toks) (fun b o hb e=>(sb'.2 b hb).trans e) f0 f1 f3 f4 f5,q⟩⟩
end
end L2
namespace Srt
open PySem PyProof.Rows
noncomputable def LtOk(κ:KeyKind)(kd:SortKind)(prog:Program)(w:World)(A:Around)(s:Shared):Prop :=
 ∀ (E:Value->Shared->Prop) (x y:Keyed) (a b:κ.α) (Q:Option Bool->SortSt->Prop) (st:SortSt),kindOf st=kd->κ.keyOf x.1=some a->κ.keyOf y.1=some b ->
  Q (some (κ.blt a b)) st->wpS (model prog w) A E s (lt' x y) Q st
structure SB(kd:SortKind)(a₀ b:Array Keyed)(lo:Nat)(pd:Array (Nat×Nat×Nat))(st:SortSt):Prop where
 perm:(arrOf st).Perm a₀
 kind:kindOf st=kd
 failed:failedOf st=none
 pend:pendingOf st=pd
 low:∀ k,k<lo->(arrOf st)[k]?=b[k]?
noncomputable def SIn(κ:KeyKind)(xs:Array Keyed)(lo n:Nat):Prop:=∀ i j,i<=j->j<n->κ.kle (KK κ xs (lo+i)) (KK κ xs (lo+j))
noncomputable def DIn(κ:KeyKind)(xs:Array Keyed)(lo n:Nat):Prop:=∀ i j,i<=j->j<n->κ.kle (KK κ xs (lo+j)) (KK κ xs (lo+i))
theorem at_key{κ:KeyKind}{a₀ xs:Array Keyed}(hp:xs.Perm a₀)(h0:KeysOf κ a₀){i:Nat}(hi:i<xs.size):∃ p a,xs[i]?=some p/\κ.keyOf p.1=some a/\KK κ xs i=a:=by
 have hm:xs[i]∈a₀.toList:=(Array.perm_iff_toList_perm.mp hp).mem_iff.mp (by simp)
 obtain⟨a,ha⟩:=h0 _ hm
 have e:xs[i]?=some xs[i]:=getElem?_pos _ i hi
 refine⟨xs[i],a,e,ha,?_⟩
 unfold KK;rw[e];simp[ha]
section
variable{prog:Program}{w:World}{A:Around}{E:Value->Shared->Prop}{s:Shared}{a₀ b:Array Keyed}{κ:KeyKind}{kd:SortKind}{lo:Nat}{pd:Array (Nat×Nat×Nat)}
theorem SB.size{st:SortSt}(h:SB kd a₀ b lo pd st):(arrOf st).size=a₀.size:=h.perm.size_eq
theorem SB.arr{st:SortSt}(h:SB kd a₀ b lo pd st){xs:Array Keyed}(hp:xs.Perm (arrOf st))(hl:∀ k,k<lo->xs[k]?=(arrOf st)[k]?):SB kd a₀ b lo pd (setArr st xs) :=
 ⟨hp.trans h.perm,h.kind,h.failed,h.pend,fun k hk=>(hl k hk).trans (h.low k hk)⟩
theorem SB.mirror{st:SortSt}(h:SB kd a₀ b lo pd st){i j:Nat}(hi:lo<=i)(hj:j<=a₀.size):SB kd a₀ b lo pd (setArr st (mirror (arrOf st) i j ((j-i) / 2))) :=
 h.arr (mirror_perm _ _ _ _) fun k hk=>by rw[getElem?_mirror_all (by rw[h.size];exact hj),if_neg (by lia)]
theorem elem_ok{arr:Array Keyed}{i:Nat}{p:Keyed}{Q:Keyed->SortSt->Prop}{st:SortSt}(h:arr[i]?=some p)(hq:Q p st):wpS (model prog w) A E s (elem' arr i) Q st:=by
 rw[elem'_eq,h];exact wpS_pure hq
theorem ltAt_ok{st:SortSt}{i j:Nat}{Q:Option Bool->SortSt->Prop}(hO:LtOk κ kd prog w A s)(hB:SB kd a₀ b lo pd st)(h0:KeysOf κ a₀)(hi:i<a₀.size)(hj:j<a₀.size)
  (h:Q (some (κ.blt (KK κ (arrOf st) i) (KK κ (arrOf st) j))) st):wpS (model prog w) A E s (ltAt' i j) Q st:=by
 obtain⟨x,a,e1,ha,ka⟩:=at_key hB.perm h0 (i:=i) (by rw[hB.size];exact hi)
 obtain⟨y,c,e2,hc,kc⟩:=at_key hB.perm h0 (i:=j) (by rw[hB.size];exact hj)
 rw[ka,kc]at h
 rw[ltAt'_eq]
 refine wpS_bind (wpS_get (wpS_bind (elem_ok e1 (wpS_bind (elem_ok e2 ?_)))))
 exact hO E x y a c Q st hB.kind ha hc h
theorem rev_ok{st:SortSt}{i j:Nat}{Q:Unit->SortSt->Prop}(h:Q () (setArr st (mirror (arrOf st) i j ((j-i) / 2)))):wpS (model prog w) A E s (reverseSlice' i j) Q st:=by
 rw[reverseSlice'_eq];exact wpS_modify h
theorem bcong{σ α β:Type}{m m':StateT σ Sem α}{f f':α->StateT σ Sem β}(h:m=m')(hf:∀ a,f a=f' a):(m >>= f)=(m' >>= f'):=by
 subst h
 rw[show f=f' from funext hf]
noncomputable def asc(lo a nrem:Nat):StateT SortSt Sem AscSt :=
 forIn [a:nrem] ((none,a):AscSt) fun _ c=>do
  let x <- ltAt' (lo+c.2) (lo+c.2-1)
  match x with
  |some sm=>if sm=true then pure (ForInStep.done (none,c.2))else pure (ForInStep.yield (none,c.2+1))
  | _=>pure (ForInStep.done (some none,c.2))
noncomputable def tl3(lo n nrem:Nat):StateT SortSt Sem (Option Nat):=do
 reverseSlice' lo (lo+n)
 let c <- asc lo n nrem
 match c.1 with
 |some r=>pure r
 |none=>pure (some c.2)
noncomputable def dsc(lo n nrem:Nat):StateT SortSt Sem DescSt :=
 forIn [n:nrem] ((none,n,0):DescSt) fun _ c=>do
  let x <- ltAt' (lo+c.2.1) (lo+c.2.1-1)
  match x with
  |some sm =>
   if sm=true then
    if c.2.2 > 0 then do
     reverseSlice' (lo+c.2.1-(c.2.2+1)) (lo+c.2.1)
     pure (ForInStep.yield (none,c.2.1+1,0))
    else pure (ForInStep.yield (none,c.2.1+1,0))
   else do
    let x <- ltAt' (lo+c.2.1-1) (lo+c.2.1)
    match x with
    |some la =>
     if la=true then pure (ForInStep.done (none,c.2.1,c.2.2))
     else pure (ForInStep.yield (none,c.2.1+1,c.2.2+1))
    | _=>pure (ForInStep.done (some none,c.2.1,c.2.2))
  | _=>pure (ForInStep.done (some none,c.2.1,c.2.2))
noncomputable def dpt(lo n nrem:Nat):StateT SortSt Sem (Option Nat):=do
 liftM (rule "list.sort.descending-run")
 let c <- dsc lo (n+1) nrem
 match c.1 with
 |some r=>pure r
 |none =>
  if c.2.2 > 0 then do
   reverseSlice' (lo+c.2.1-(c.2.2+1)) (lo+c.2.1)
   tl3 lo c.2.1 nrem
  else tl3 lo c.2.1 nrem
theorem count_eq(lo nrem:Nat):countRun' lo nrem=(do
  let c <- asc lo 1 nrem
  match c.1 with
  |some r=>pure r
  |none =>
   if(c.2 == nrem)=true then pure (some c.2)
   else if c.2 > 1 then do
    let x <- ltAt' lo (lo+c.2-1)
    match x with
    |some rose=>if rose=true then pure (some c.2)else do
      reverseSlice' lo (lo+c.2)
      dpt lo c.2 nrem
    | _=>pure none
   else dpt lo c.2 nrem):=by
 rw[countRun'_eq]
 unfold dpt tl3 dsc asc
 refine bcong rfl fun c=>?_
 obtain⟨r,n⟩:=c
 cases r with
 |some r=>rfl
 |none =>
  dsimp only
  split
  ·rfl
  ·split
   ·refine bcong rfl fun x=>?_
    cases x with
    |none=>rfl
    |some rose =>
     dsimp only
     split
     ·rfl
     ·refine bcong rfl fun _=>bcong rfl fun _=>bcong rfl fun s2=>?_
      obtain⟨r2,n2,q2⟩:=s2
      cases r2 with
      |some r2=>rfl
      |none =>
       dsimp only
       split
       ·refine bcong rfl fun _=>bcong rfl fun _=>bcong rfl fun s3=>?_
        obtain⟨r3,n3⟩:=s3
        cases r3 <;> rfl
       ·refine bcong rfl fun _=>bcong rfl fun s3=>?_
        obtain⟨r3,n3⟩:=s3
        cases r3 <;> rfl
   ·refine bcong rfl fun _=>bcong rfl fun s2=>?_
    obtain⟨r2,n2,q2⟩:=s2
    cases r2 with
    |some r2=>rfl
    |none =>
     dsimp only
     split
     ·refine bcong rfl fun _=>bcong rfl fun _=>bcong rfl fun s3=>?_
      obtain⟨r3,n3⟩:=s3
      cases r3 <;> rfl
     ·refine bcong rfl fun _=>bcong rfl fun s3=>?_
      obtain⟨r3,n3⟩:=s3
      cases r3 <;> rfl
theorem asc_ok{st:SortSt}{a nrem:Nat}{Q:AscSt->SortSt->Prop}(hO:LtOk κ kd prog w A s)(h0:KeysOf κ a₀)(hn:lo+nrem<=a₀.size)(ha:1<=a)(han:a<=nrem)(hB:SB kd a₀ b lo pd st)(hs:SIn κ (arrOf st) lo a)
  (h:∀ n,a<=n->n<=nrem->SIn κ (arrOf st) lo n->(n=nrem\/κ.klt (KK κ (arrOf st) (lo+n)) (KK κ (arrOf st) (lo+n-1)))->Q (none,n) st):wpS (model prog w) A E s (asc lo a nrem) Q st:=by
 unfold asc
 refine wpS_forRange (I:=fun x c st'=>st'=st/\c=(none,x)/\SIn κ (arrOf st) lo x) ?step ?fin ⟨rfl,rfl,hs⟩
 case fin =>
  rintro c st' ⟨rfl,rfl,g⟩
  rw[show max a nrem=nrem by lia]at g ⊢
  exact h nrem han (Nat.le_refl _) g (.inl rfl)
 case step =>
  rintro x c st' hax hxn ⟨rfl,rfl,g⟩
  dsimp only
  refine wpS_bind (ltAt_ok hO hB h0 (by lia) (by omega) ?_)
  cases q:κ.blt (KK κ (arrOf st') (lo+x)) (KK κ (arrOf st') (lo+x-1))with
  |true=>exact wpS_pure (h x hax (by lia) g (.inr q))
  |false =>
   refine wpS_pure ⟨rfl,rfl,fun i j hij hj=>?_⟩
   by_cases z:j<x
   ·exact g i j hij z
   ·have z:j=x:=by lia
    subst z
    by_cases y:i=j
    ·subst y;exact KeyOrd.kle_refl _
    ·have u:=g i (j-1) (by lia) (by lia)
     rw[show lo+(j-1)=lo+j-1 by lia]at u
     exact KeyOrd.kle_trans u q
theorem tl3_ok{st:SortSt}{n nrem:Nat}{Q:Option Nat->SortSt->Prop}(hO:LtOk κ kd prog w A s)(h0:KeysOf κ a₀)(hn:lo+nrem<=a₀.size)(h1:1<=n)(hnn:n<=nrem)(hB:SB kd a₀ b lo pd st)(hs:DIn κ (arrOf st) lo n)
  (h:∀ m st',SB kd a₀ b lo pd st'->1<=m->m<=nrem->SIn κ (arrOf st') lo m->Q (some m) st'):wpS (model prog w) A E s (tl3 lo n nrem) Q st:=by
 unfold tl3
 have hsz:lo+n<=(arrOf st).size:=by rw[hB.size];lia
 have hB':=hB.mirror (i:=lo) (j:=lo+n) (Nat.le_refl _) (by lia)
 refine wpS_bind (rev_ok (wpS_bind (asc_ok hO h0 hn h1 hnn hB' ?_ fun m p1 p2 p3 _=>wpS_pure (h m _ hB' (by lia) p2 p3))))
 intro i j hij hj
 show κ.kle (KK κ (mirror (arrOf st) lo (lo+n) ((lo+n-lo) / 2)) (lo+i)) (KK κ (mirror (arrOf st) lo (lo+n) ((lo+n-lo) / 2)) (lo+j))
 rw[KK_mirror hsz,KK_mirror hsz,if_pos (by lia),if_pos (by lia),show lo+(lo+n)-1-(lo+i)=lo+(n-1-i) by lia,show lo+(lo+n)-1-(lo+j)=lo+(n-1-j) by omega]
 exact hs _ _ (by omega) (by omega)
theorem dsc_ok{st:SortSt}{n nrem:Nat}{Q:DescSt->SortSt->Prop}(hO:LtOk κ kd prog w A s)(h0:KeysOf κ a₀)(hn:lo+nrem<=a₀.size)(h1:1<=n)(hnn:n<=nrem)(hB:SB kd a₀ b lo pd st)(hs:DIn κ (arrOf st) lo n)
  (h:∀ m q st',SB kd a₀ b lo pd st'->n<=m->m<=nrem->DIn κ (arrOf st') lo m->q+1<=m->(∀ i,m-(q+1)<=i->i<m->KK κ (arrOf st') (lo+i)=KK κ (arrOf st') (lo+m-1))->Q (none,m,q) st') :
  wpS (model prog w) A E s (dsc lo n nrem) Q st:=by
 unfold dsc
 refine wpS_forRange (I:=fun x c st'=>∃ q,c=(none,x,q)/\SB kd a₀ b lo pd st'/\DIn κ (arrOf st') lo x/\q+1<=x/\(∀ i,x-(q+1)<=i->i<x->KK κ (arrOf st') (lo+i)=KK κ (arrOf st') (lo+x-1))) ?step ?fin
  ⟨0,rfl,hB,hs,by omega,fun i h1 h2=>by rw[show lo+i=lo+n-1 by lia]⟩
 case fin =>
  rintro c st' ⟨q,rfl,g1,g2,g3,g4⟩
  rw[show max n nrem=nrem by lia]at g2 g3 g4 ⊢
  exact h nrem q st' g1 hnn (Nat.le_refl _) g2 g3 g4
 case step =>
  rintro x c st' hax hxn ⟨q,rfl,g1,g2,g3,g4⟩
  dsimp only
  have hsz:lo+x<=(arrOf st').size:=by rw[g1.size];lia
  refine wpS_bind (ltAt_ok hO g1 h0 (by lia) (by lia) ?_)
  cases t:κ.blt (KK κ (arrOf st') (lo+x)) (KK κ (arrOf st') (lo+x-1))with
  |true =>
   have step1:∀ xs:Array Keyed,(∀ k,KK κ xs k=KK κ (arrOf st') k)->DIn κ xs lo (x+1):=by
    intro xs hk i j hij hj
    rw[hk,hk]
    by_cases z:j<x
    ·exact g2 i j hij z
    ·have z:j=x:=by lia
     subst z
     by_cases y:i=j
     ·subst y;exact KeyOrd.kle_refl _
     ·have u:=g2 i (j-1) (by lia) (by lia)
      rw[show lo+(j-1)=lo+j-1 by lia]at u
      exact KeyOrd.kle_trans (KeyOrd.kle_of_klt t) u
   dsimp only
   rw[if_pos rfl]
   by_cases y:q > 0
   ·rw[if_pos y]
    have eqs:∀ k,lo+x-(q+1)<=k->k<lo+x->KK κ (arrOf st') k=KK κ (arrOf st') (lo+x-1):=fun k k1 k2=>by
     have u:=g4 (k-lo) (by omega) (by lia)
     rwa [show lo+(k-lo)=k by lia]at u
    refine wpS_bind (rev_ok (wpS_pure ⟨0,rfl,g1.mirror (by omega) (by lia),step1 _ (KK_mirror_equal hsz eqs),by lia,fun i h1 h2=>by rw[show lo+i=lo+(x+1)-1 by lia]⟩))
   ·rw[if_neg y]
    exact wpS_pure ⟨0,rfl,g1,step1 _ (fun _=>rfl),by lia,fun i h1 h2=>by rw[show lo+i=lo+(x+1)-1 by lia]⟩
  |false =>
   dsimp only
   rw[if_neg Bool.false_ne_true]
   refine wpS_bind (ltAt_ok hO g1 h0 (by lia) (by lia) ?_)
   cases u:κ.blt (KK κ (arrOf st') (lo+x-1)) (KK κ (arrOf st') (lo+x))with
   |true=>exact wpS_pure (h x q st' g1 hax (by lia) g2 g3 g4)
   |false =>
    have ex:KK κ (arrOf st') (lo+x)=KK κ (arrOf st') (lo+x-1):=KeyOrd.kle_antisymm u t
    refine wpS_pure ⟨q+1,rfl,g1,fun i j hij hj=>?_,by lia,fun i h1 h2=>?_⟩
    ·by_cases z:j<x
     ·exact g2 i j hij z
     ·have z:j=x:=by lia
      subst z
      by_cases y:i=j
      ·subst y;exact KeyOrd.kle_refl _
      ·rw[ex]
       have v:=g2 i (j-1) (by lia) (by lia)
       rwa [show lo+(j-1)=lo+j-1 by lia]at v
    ·rw[show lo+(x+1)-1=lo+x by lia]
     by_cases z:i=x
     ·subst z;rfl
     ·rw[ex];exact g4 i (by lia) (by lia)
theorem dpt_ok{st:SortSt}{n nrem:Nat}{Q:Option Nat->SortSt->Prop}(hO:LtOk κ kd prog w A s)(h0:KeysOf κ a₀)(hn:lo+nrem<=a₀.size)(hnn:n+1<=nrem)(hB:SB kd a₀ b lo pd st)(hs:DIn κ (arrOf st) lo (n+1))
  (h:∀ m st',SB kd a₀ b lo pd st'->1<=m->m<=nrem->SIn κ (arrOf st') lo m->Q (some m) st'):wpS (model prog w) A E s (dpt lo n nrem) Q st:=by
 unfold dpt
 refine wpS_bind (wpS_lift (wpAny_rule ⟨rfl,wpS_bind (dsc_ok hO h0 hn (by lia) hnn hB hs fun m q st' g1 m1 m2 g2 g3 g4=>?_)⟩))
 dsimp only
 have hsz:lo+m<=(arrOf st').size:=by rw[g1.size];lia
 by_cases y:q > 0
 ·rw[if_pos y]
  have eqs:∀ k,lo+m-(q+1)<=k->k<lo+m->KK κ (arrOf st') k=KK κ (arrOf st') (lo+m-1):=fun k k1 k2=>by
   have u:=g4 (k-lo) (by omega) (by lia)
   rwa [show lo+(k-lo)=k by lia]at u
  refine wpS_bind (rev_ok (tl3_ok hO h0 hn (by lia) m2 (g1.mirror (by omega) (by lia)) (fun i j hij hj=>?_) h))
  show κ.kle (KK κ (mirror (arrOf st') _ _ _) (lo+j)) (KK κ (mirror (arrOf st') _ _ _) (lo+i))
  rw[KK_mirror_equal hsz eqs,KK_mirror_equal hsz eqs]
  exact g2 i j hij hj
 ·rw[if_neg y]
  exact tl3_ok hO h0 hn (by lia) m2 g1 g2 h
theorem count_ok{st:SortSt}{nrem:Nat}{Q:Option Nat->SortSt->Prop}(hO:LtOk κ kd prog w A s)(h0:KeysOf κ a₀)(hn:lo+nrem<=a₀.size)(h1:1<=nrem)(hB:SB kd a₀ b lo pd st)
  (h:∀ m st',SB kd a₀ b lo pd st'->1<=m->m<=nrem->SIn κ (arrOf st') lo m->Q (some m) st'):wpS (model prog w) A E s (countRun' lo nrem) Q st:=by
 rw[count_eq]
 refine wpS_bind (asc_ok hO h0 hn (Nat.le_refl 1) h1 hB (fun i j hij hj=>by rw[show i=j by lia];exact KeyOrd.kle_refl _) fun n n1 n2 g1 g2=>?_)
 dsimp only
 by_cases z:n=nrem
 ·rw[if_pos (by simpa using z)]
  exact wpS_pure (h n st hB n1 n2 g1)
 ·rw[if_neg (by simpa using z)]
  have t:=g2.resolve_left z
  by_cases y:n > 1
  ·rw[if_pos y]
   refine wpS_bind (ltAt_ok hO hB h0 (by lia) (by omega) ?_)
   cases u:κ.blt (KK κ (arrOf st) lo) (KK κ (arrOf st) (lo+n-1))with
   |true=>exact wpS_pure (h n st hB n1 n2 g1)
   |false =>
    have hsz:lo+n<=(arrOf st).size:=by rw[hB.size];lia
    have eqs:∀ k,lo<=k->k<lo+n->KK κ (arrOf st) k=KK κ (arrOf st) (lo+n-1):=fun k k1 k2=>by
     have a1:=g1 0 (k-lo) (by lia) (by omega)
     have a2:=g1 (k-lo) (n-1) (by lia) (by omega)
     rw[show lo+(k-lo)=k by lia]at a1 a2
     rw[show lo+(n-1)=lo+n-1 by lia]at a2
     exact KeyOrd.kle_antisymm a2 (KeyOrd.kle_trans u a1)
    dsimp only
    rw[if_neg Bool.false_ne_true]
    refine wpS_bind (rev_ok (dpt_ok hO h0 hn (by lia) (hB.mirror (Nat.le_refl _) (by lia)) (fun i j hij hj=>?_) h))
    show κ.kle (KK κ (mirror (arrOf st) _ _ _) (lo+j)) (KK κ (mirror (arrOf st) _ _ _) (lo+i))
    rw[KK_mirror_equal hsz eqs,KK_mirror_equal hsz eqs]
    by_cases v:j<n
    ·rw[eqs (lo+i) (by lia) (by lia),eqs (lo+j) (by lia) (by lia)];exact KeyOrd.kle_refl _
    ·have v:j=n:=by lia
     subst v
     by_cases v:i=j
     ·subst v;exact KeyOrd.kle_refl _
     ·rw[eqs (lo+i) (by lia) (by lia)];exact KeyOrd.kle_of_klt t
  ·rw[if_neg y]
   have z:n=1:=by lia
   subst z
   refine dpt_ok hO h0 hn (by lia) hB (fun i j hij hj=>?_) h
   by_cases v:i=j
   ·subst v;exact KeyOrd.kle_refl _
   ·have e1:i=0:=by lia
    have e2:j=1:=by lia
    subst e1 e2
    exact KeyOrd.kle_of_klt t
theorem bin_ok{st:SortSt}{n ok:Nat}{Q:Bool->SortSt->Prop}(hO:LtOk κ kd prog w A s)(h0:KeysOf κ a₀)(hn:lo+n<=a₀.size)(hok:ok<=n)(hB:SB kd a₀ b lo pd st)(hs:SIn κ (arrOf st) lo ok)
  (h:∀ st',SB kd a₀ b lo pd st'->SIn κ (arrOf st') lo n->Q true st'):wpS (model prog w) A E s (binarySort' lo n ok) Q st:=by
 rw[binarySort'_eq]
 refine wpS_bind (wpS_mono (wpS_forRange (I:=fun k c st'=>c=(none,())/\SB kd a₀ b lo pd st'/\SIn κ (arrOf st') lo (min k n)) (Q:=fun c st'=>c=(none,())/\SB kd a₀ b lo pd st'/\SIn κ (arrOf st') lo n) ?step ?fin ?init) ?post)
 case post =>
  rintro c st' ⟨rfl,g1,g2⟩
  exact wpS_pure (h st' g1 g2)
 case init =>
  refine⟨rfl,hB,fun i j hij hj=>?_⟩
  by_cases h1:ok=0
  ·rw[show i=j by lia];exact KeyOrd.kle_refl _
  ·exact hs i j hij (by lia)
 case fin =>
  rintro c st' ⟨g0,g1,g2⟩
  refine⟨g0,g1,?_⟩
  rwa [show min (max (max ok 1) n) n=n by lia]at g2
 case step =>
  rintro k c st' hak hkn ⟨rfl,g1,g2⟩
  rw[show min k n=k by lia]at g2
  have hk:lo+k<a₀.size:=by lia
  refine wpS_bind (wpS_mono (wpS_forRange (I:=fun x c st''=>st''=st'/\∃ l r,c=(none,l,r)/\l<=r/\r<=k/\r-l<=k-x/\(∀ i,i<l->κ.kle (KK κ (arrOf st') (lo+i)) (KK κ (arrOf st') (lo+k))) /\
     (∀ i,r<=i->i<k->κ.klt (KK κ (arrOf st') (lo+k)) (KK κ (arrOf st') (lo+i))))
   (Q:=fun c st''=>st''=st'/\∃ l r,c=(none,l,r)/\l<=k/\(∀ i,i<l->κ.kle (KK κ (arrOf st') (lo+i)) (KK κ (arrOf st') (lo+k)))/\(∀ i,l<=i->i<k->κ.klt (KK κ (arrOf st') (lo+k)) (KK κ (arrOf st') (lo+i)))) ?istep ?ifin ?iinit) ?ipost)
  case iinit=>exact⟨rfl,0,k,rfl,by lia,by lia,by lia,fun i hi=>by lia,fun i h1 h2=>by lia⟩
  case ifin =>
   rintro c st'' ⟨rfl,l,r,rfl,i1,i2,i3,i4,i5⟩
   have z:l=r:=by lia
   subst z
   exact⟨rfl,l,l,rfl,i2,i4,i5⟩
  case istep =>
   rintro x c st'' _ hxk ⟨rfl,l,r,rfl,i1,i2,i3,i4,i5⟩
   dsimp only
   by_cases y:l >= r
   ·rw[if_pos y]
    have z:l=r:=by lia
    subst z
    exact wpS_pure ⟨rfl,l,l,rfl,i2,i4,i5⟩
   ·rw[if_neg y]
    refine wpS_bind (ltAt_ok hO g1 h0 hk (by lia) ?_)
    cases t:κ.blt (KK κ (arrOf st'') (lo+k)) (KK κ (arrOf st'') (lo+(l+r) / 2))with
    |true =>
     refine wpS_pure ⟨rfl,l,(l+r) / 2,rfl,by lia,by lia,by omega,i4,fun i h1 h2=>?_⟩
     exact KeyOrd.klt_of_klt_of_kle t (g2 _ _ h1 h2)
    |false =>
     refine wpS_pure ⟨rfl,(l+r) / 2+1,r,rfl,by lia,by omega,by omega,fun i h1=>?_,i5⟩
     exact KeyOrd.kle_trans (g2 i ((l+r) / 2) (by lia) (by lia)) (show κ.kle _ _ from t)
  case ipost =>
   rintro c st'' ⟨rfl,l,r,rfl,i2,i4,i5⟩
   show wpS _ _ _ _ (do moveDown' (lo+k) (lo+l);pure (ForInStep.yield (none,()))) _ _
   rw[moveDown'_eq]
   have hks:lo+k <(arrOf st'').size:=by rw[g1.size];exact hk
   refine wpS_bind (wpS_modify (wpS_pure ⟨rfl,g1.arr (bubble_perm _ _ _) fun m hm=>?_,?_⟩))
   ·rw[getElem?_bubble hks _ (by omega),if_neg (by omega),if_neg (by omega)]
   rw[show min (k+1) n=k+1 by lia]
   intro i j hij hj
   show κ.kle (KK κ (bubble (arrOf st'') (lo+k) (lo+k-(lo+l))) (lo+i)) (KK κ (bubble (arrOf st'') (lo+k) (lo+k-(lo+l))) (lo+j))
   rw[KK_bubble hks (by omega),KK_bubble hks (by omega),show lo+k-(lo+k-(lo+l))=lo+l by lia]
   have sh:∀ m,lo+l<lo+m->lo+m-1=lo+(m-1):=fun m hm=>by lia
   repeat' split
   all_goals first
    |(exfalso;lia)
    |exact KeyOrd.kle_refl _
    |exact i4 _ (by lia)
    |(rw[sh _ (by lia)];exact KeyOrd.kle_of_klt (i5 _ (by lia) (by lia)))
    |exact KeyOrd.kle_of_klt (i5 _ (by omega) (by omega))
    |exact g2 _ _ (by omega) (by lia)
    |(rw[sh _ (by lia),sh _ (by lia)];exact g2 _ _ (by omega) (by lia))
    |(rw[sh _ (by lia)];exact g2 _ _ (by lia) (by omega))
end
open PySem PyProof.Rows
section
variable{prog:Program}{w:World}{A:Around}{E:Value->Shared->Prop}{s:Shared}{κ:KeyKind}{kd:SortKind}{st:SortSt}{a₀:Array Keyed}
theorem wpS_ifZ{M:Model}{A:Around}{E:Value->Shared->Prop}{s:Shared}{σ α:Type}{c:Prop}[Decidable c]{x y:StateT σ Sem α}{Q:α->σ->Prop}{t:σ}(h1:c->wpS M A E s x Q t)(h2:¬ c->wpS M A E s y Q t):wpS M A E s (if c then x else y) Q t:=by
 by_cases h:c
 ·rw[if_pos h];exact h1 h
 ·rw[if_neg h];exact h2 h
structure CoreZ(κ:KeyKind)(kd:SortKind)(a₀:Array Keyed)(lo:Nat)(st:SortSt):Prop where
 perm:(arrOf st).Perm a₀
 kind:kindOf st=kd
 failed:failedOf st=none
 one:(lo=0/\pendingOf st = #[])\/(lo=a₀.size/\SIn κ (arrOf st) 0 a₀.size/\(pendingOf st).size<=1)
theorem runs_okZ{Q:Unit->SortSt->Prop}(hO:LtOk κ kd prog w A s)(h0:KeysOf κ a₀)(hB:SB kd a₀ a₀ 0 #[] st)(h2:2<=a₀.size)(h64:a₀.size<64)
  (h:∀ st',(arrOf st').Perm a₀->failedOf st'=none->SIn κ (arrOf st') 0 a₀.size->Q () st'):wpS (model prog w) A E s sortRuns' Q st:=by
 rw[sortRuns'_eq]
 refine wpS_bind (wpS_get ?_)
 dsimp only
 simp only[hB.size]
 have hmr:minRun' a₀.size a₀.size 0=a₀.size:=by
  obtain⟨k,e⟩:∃ k,a₀.size=k+1:=⟨a₀.size-1,by omega⟩
  rw[e,minRun'_succ,if_pos (by omega)]
 rw[hmr]
 refine wpS_bind (wpS_mono (wpS_forRange
  (I:=fun x c st'=>∃ lo,c=(none,lo)/\x<=lo/\CoreZ κ kd a₀ lo st')
  (Q:=fun c st'=>c=(none,a₀.size)/\CoreZ κ kd a₀ a₀.size st') ?step ?fin ⟨0,rfl,Nat.le_refl _,hB.perm,hB.kind,hB.failed,.inl ⟨rfl,hB.pend⟩⟩) ?post)
 case fin =>
  rintro c st' ⟨lo,rfl,hx,C⟩
  have e:lo=a₀.size:=by have:=C.one;omega
  subst e
  exact⟨rfl,C⟩
 case step =>
  rintro x c st1 _ hx ⟨lo,rfl,xlo,C⟩
  dsimp only
  by_cases hlo:lo >= a₀.size
  ·rw[if_pos hlo]
   have e:lo=a₀.size:=by have:=C.one;omega
   subst e
   exact wpS_pure ⟨rfl,C⟩
  rw[if_neg hlo]
  obtain⟨rfl,pd⟩:lo=0/\pendingOf st1 = #[]:=C.one.resolve_right fun z=>hlo (Nat.le_of_eq z.1.symm)
  refine wpS_bind (count_ok hO h0 (b:=arrOf st1) (pd:=pendingOf st1) (by omega) (by omega) ⟨C.perm,C.kind,C.failed,rfl,fun _ _=>rfl⟩ fun m st2 B2 m1 m2 S2=>?_)
  dsimp only
  have last:∀ (st':SortSt) (n:Nat),SB kd a₀ (arrOf st1) 0 (pendingOf st1) st'->SIn κ (arrOf st') 0 n->n=a₀.size->∀ z,CoreZ κ kd a₀ (0+n) (setPending st' ((pendingOf st').push (0,n,z))):=fun st' n B S e z=>by
   subst e
   refine⟨B.perm,B.kind,B.failed,.inr ⟨Nat.zero_add _,S,?_⟩⟩
   show((pendingOf st').push (0,a₀.size,z)).size<=1
   rw[B.pend,pd]
   exact Nat.le_refl 1
  by_cases hlt:m<a₀.size
  ·rw[if_pos hlt]
   refine wpS_bind (wpS_lift (wpAny_rule ⟨rfl,wpS_bind (bin_ok hO h0 (by omega) (by omega) B2 S2 fun st3 B3 S3=>?_)⟩))
   refine wpS_ifZ (fun z=>absurd z (by simp)) fun _=>?_
   have g0:min (a₀.size-0) a₀.size=a₀.size:=by omega
   rw[g0]at S3 ⊢
   refine wpS_bind (wpS_get ?_)
   rw[show(pendingOf st3).back?=none by rw[B3.pend,pd];rfl]
   dsimp only
   refine wpS_bind (wpS_modify (wpS_pure ?_))
   exact⟨0+a₀.size,rfl,by omega,last st3 _ B3 S3 rfl _⟩
  ·rw[if_neg hlt]
   refine wpS_bind (wpS_get ?_)
   rw[show(pendingOf st2).back?=none by rw[B2.pend,pd];rfl]
   dsimp only
   refine wpS_bind (wpS_modify (wpS_pure ?_))
   exact⟨0+m,rfl,by omega,last st2 _ B2 S2 (by omega) _⟩
 case post =>
  rintro c st1 ⟨rfl,C⟩
  dsimp only
  obtain⟨_,S,ps⟩:a₀.size=a₀.size/\SIn κ (arrOf st1) 0 a₀.size/\(pendingOf st1).size<=1:=C.one.resolve_left fun z=>by have:=z.1;omega
  refine wpS_bind (wpS_mono (wpS_forRange (I:=fun x c st'=>c=(none,())/\st'=st1) (Q:=fun c st'=>c=(none,())/\st'=st1) ?lstep ?lfin ⟨rfl,rfl⟩) ?lpost)
  case lfin=>exact fun c st' z=>z
  case lpost =>
   rintro c st' ⟨rfl,rfl⟩
   exact wpS_pure (h _ C.perm C.failed S)
  case lstep =>
   rintro x c st2 _ hx ⟨rfl,rfl⟩
   refine wpS_bind (wpS_get ?_)
   rw[if_pos ps]
   exact wpS_pure ⟨rfl,rfl⟩
end
open PySem PySem.W PyProof.Rows
noncomputable def RawD(d:Addr)(ks:List Value)(ep:Nat)(g:Heap):Prop:=∃ ob en,g.get? d=some ob/\ob.ExactDict/\ob.data = .dict en ep/\en.toList.map (fun r=>r.key)=ks
section
variable{d it:Addr}{ks:List Value}{ep i:Nat}{g g':Heap}{prog:Program}{w:World}{A:Around}{E:Value->Shared->Prop}{s:Shared}
theorem RawD.to(x:RawD d ks ep g)(k:∀ u,g.get? d=some u->g'.get? d=some u):RawD d ks ep g':=by
 obtain⟨ob,en,a,r⟩:=x
 exact⟨ob,en,k _ a,r⟩
theorem RawD.ty(x:RawD d ks ep s.heap):s.TypeIs (.ref d) "dict":=by
 obtain⟨ob,en,a,c,r⟩:=x
 exact⟨ob,a,c.1⟩
theorem RawD.lt(x:RawD d ks ep g):d<g.objs.size:=by
 obtain⟨ob,en,a,c,r⟩:=x
 exact Heap.lt_size a
theorem rawIter{Q:Value->Shared->Prop}(nd:(d == sysModules)=false)(x:RawD d ks ep s.heap)
  (q:Q (.ref s.heap.objs.size) { s with heap:=s.heap.push { cls:=.type "dict_keyiterator",data:=.fields #[.ref d,.int 0 0,.int ks.length 0,.int ep 0] } }) :
  wpAny (model prog w) A (pyIter (.ref d)) Q E s:=by
 have ty:=x.ty
 obtain⟨ob,en,a,c,dt,ke⟩:=x
 have len:en.size=ks.length:=by rw[<- ke];simp
 refine wpAny_pyIter_slot ty F.slot_dict_iter (wpAny_call_entry F.slot_dict_iter ty F.entry_dict_iter ?_ (F.args_dict_iter_1 _))
 unfold Builtin.«dict.__iter__»;refine wpAny_bind ?_
 unfold Builtin.Dict.dictSlotNone;refine wpAny_bind (wpAny_notOrdered_dict ty ?_)
 show wpAny _ _ (pure (Value.ref d)) _ _ s;refine wpAny_pure ?_
 show wpAny _ _ (Builtin.Dict.showsAll d >>= _) _ _ s;unfold Builtin.Dict.showsAll
 rw[if_neg (fun e=>Bool.false_ne_true (nd.symm.trans e))];refine wpAny_bind (wpAny_pure (wpAny_bind (wpAny_dictEntries a dt (wpAny_bind (wpAny_dictEpoch a dt ?_)))))
 refine wpAny_bind (wpAny_newObj_type (wpAny_pure ⟨_,rfl,"dict_keyiterator",_,⟨_,Heap.get?_push_size _ rfl,rfl⟩,F.slot_dict_keyiterator_next.lookup,?_⟩));simpa[rawInt,len]using q
theorem rawItem{v:Value}{Q:Option Value->Shared->Prop}(hI:s.heap.IsKeyIter it d i ks.length ep)(x:RawD d ks ep s.heap)(hv:ks[i]?=some v)
  (q:∀ g',g'.IsKeyIter it d (i+1) ks.length ep->Heap.SameBut it s.heap g'->Q (some v) { s with heap:=g' }):wpAny (model prog w) A (pyNext (.ref it)) Q E s:=by
 obtain⟨io,a0,c0,d0⟩:=id hI
 obtain⟨ob,en,a,c,dt,ke⟩:=x
 have len:en.size=ks.length:=by rw[<- ke];simp
 unfold pyNext;refine wpAny_bind (wpAny_attempt (wpAny_callSpecial?_slot (name:=Str.ofString "__next__") hI.typeIs F.slot_dict_keyiterator_next (wpAny_call_entry F.slot_dict_keyiterator_next hI.typeIs F.entry_dict_keyiterator_next ?_ (F.args_dict_keyiterator_next_1 _))))
 refine wpAny_bind (wpAny_pure (wpAny_bind (wpAny_bind ?_)))
 first | refine wpAny_bind (wpAny_typeNameOfWhole_keyiter hI.typeIs (wpAny_pure ?_)) | refine wpAny_bind (wpAny_typeNameOf_keyiter hI.typeIs (wpAny_pure ?_))
 refine wpAny_bind (wpAny_fieldsOf a0 d0 ?_);have own:Builtin.Dict_items.ownsTuple "dict_keyiterator" = false:=by decide
 simp only[own,Bool.false_eq_true,if_false];show wpAny _ _ (if(Value.ref d == Value.none)=true then _ else _) _ _ s
 rw[if_neg (show ¬((Value.ref d == Value.none)=true)from Bool.false_ne_true)];refine wpAny_bind (wpAny_pure (wpAny_bind (wpAny_dictEntries a dt ?_)))
 rw[if_neg (by rw[len];simp)];refine wpAny_bind (wpAny_pure (wpAny_bind (wpAny_dictEpoch a dt ?_)))
 rw[if_neg (by simp)];refine wpAny_pure ?_
 have il:i<en.size:=by rw[len];exact(List.getElem?_eq_some_iff.mp hv).1
 have iv:en[i].key=v:=by
  have z:(en.toList.map (fun r=>r.key))[i]?=some en[i].key:=by rw[List.getElem?_map,Array.getElem?_toList,Array.getElem?_eq_getElem il];rfl
  rw[ke,hv]at z
  exact(Option.some.inj z).symm
 simp only[show ¬((i:Int)<0)from by lia,if_false,Int.toNat_natCast,Array.getElem?_eq_getElem il];refine wpAny_bind ?_
 first | refine wpAny_bind (wpAny_typeNameOfWhole_keyiter hI.typeIs (wpAny_pure ?_)) | refine wpAny_bind (wpAny_typeNameOf_keyiter hI.typeIs (wpAny_pure ?_))
 refine wpAny_bind (wpAny_isOneOf_keyiter hI.typeIs ?_);show wpAny _ _ (setField (.ref it) 1 (rawInt ((i:Int)+1)) >>= _) _ _ s
 refine wpAny_bind (wpAny_setField a0 d0 (by simp) ?_)
 have hI':(s.heap.update it (Obj.mapFields (·.setIfInBounds 1 (rawInt ((i:Int)+1))))).IsKeyIter it d (i+1) ks.length ep:=⟨_,Heap.get?_update_self _ a0 (Obj.isFreed_of_fields (Obj.data_mapFields d0 _)),(Obj.cls_mapFields ..).trans c0,by rw[Obj.data_mapFields d0];simp[rawInt]⟩
 refine wpAny_bind (wpAny_holding (wpAny_bind (wpAny_isOneOf_keyiter (s:={ s with heap:=s.heap.update it (Obj.mapFields (·.setIfInBounds 1 (rawInt ((i:Int)+1)))) }) hI'.typeIs ?_)))
 show wpAny _ _ (pure en[i].key) _ _ _;rw[iv]
 exact wpAny_pure (wpAny_pure ⟨_,rfl,wpAny_pure (q _ hI' (Heap.SameBut.update ..))⟩)
theorem rawEnd{Q:Option Value->Shared->Prop}(hh:A.handled=none)(hI:s.heap.IsKeyIter it d i ks.length ep)(x:RawD d ks ep s.heap)(hv:ks.length<=i)
  (q:∀ g',Heap.ExtBut it s.heap g'->Q none { s with heap:=g' }):wpAny (model prog w) A (pyNext (.ref it)) Q E s:=by
 obtain⟨io,a0,c0,d0⟩:=id hI
 obtain⟨ob,en,a,c,dt,ke⟩:=x
 have len:en.size=ks.length:=by rw[<- ke];simp
 unfold pyNext;refine wpAny_bind (wpAny_attempt (wpAny_callSpecial?_slot (name:=Str.ofString "__next__") hI.typeIs F.slot_dict_keyiterator_next (wpAny_call_entry F.slot_dict_keyiterator_next hI.typeIs F.entry_dict_keyiterator_next ?_ (F.args_dict_keyiterator_next_1 _))))
 refine wpAny_bind (wpAny_pure (wpAny_bind (wpAny_bind ?_)))
 first | refine wpAny_bind (wpAny_typeNameOfWhole_keyiter hI.typeIs (wpAny_pure ?_)) | refine wpAny_bind (wpAny_typeNameOf_keyiter hI.typeIs (wpAny_pure ?_))
 refine wpAny_bind (wpAny_fieldsOf a0 d0 ?_);have own:Builtin.Dict_items.ownsTuple "dict_keyiterator" = false:=by decide
 simp only[own,Bool.false_eq_true,if_false];show wpAny _ _ (if(Value.ref d == Value.none)=true then _ else _) _ _ s
 rw[if_neg (show ¬((Value.ref d == Value.none)=true)from Bool.false_ne_true)];refine wpAny_bind (wpAny_pure (wpAny_bind (wpAny_dictEntries a dt ?_)))
 rw[if_neg (by rw[len];simp)];refine wpAny_bind (wpAny_pure (wpAny_bind (wpAny_dictEpoch a dt ?_)))
 rw[if_neg (by simp)];refine wpAny_pure ?_
 have il:en.size<=i:=by rw[len];exact hv
 simp only[show ¬((i:Int)<0)from by lia,if_false,Int.toNat_natCast,Array.getElem?_eq_none il];refine wpAny_bind ?_
 first | refine wpAny_bind (wpAny_typeNameOfWhole_keyiter hI.typeIs (wpAny_pure ?_)) | refine wpAny_bind (wpAny_typeNameOf_keyiter hI.typeIs (wpAny_pure ?_))
 show wpAny _ _ (setField (.ref it) 0 .none >>= _) _ _ s;refine wpAny_bind (wpAny_setField a0 d0 (by simp) ?_)
 show wpAny _ _ (newExc (.type "StopIteration") [] >>= _) _ _ _;refine wpAny_bind ?_
 simp only[newExc,newTuple];refine wpAny_bind (wpAny_newObj_type ?_ (by size_fits))
 refine wpAny_bind (m:=firstArgMember _ _) (wpAny_of_eq (a:=Value.none) (by first | rfl |(simp only[firstArgMember];rfl)) (wpAny_newObj_type ?_ (by size_fits)))
 simp only[raiseNew];refine wpAny_bind (wpAny_handled ?_)
 rw[show A.in1.handled=none from hh];refine wpAny_bind (wpAny_pure (wpAny_throw ?_))
 refine wpAny_bind (wpAny_isInstance (T:="StopIteration") (b:=true) ⟨_,Heap.get?_push_size _ rfl,rfl⟩ isSubtype_stop ?_)
 exact wpAny_pure (q _ (((Heap.SameBut.update ..).extBut.push _).push _))
theorem rawWalks(hh:A.handled=none)(I d:Addr)(ne:d≠I)(ks:List Value)(ep:Nat) :
  Walks prog w A I [I,d] [I] ks.length (fun i v=>ks[i]?=some v) (fun i g=>g.IsKeyIter I d i ks.length ep/\RawD d ks ep g)where
 sub:=fun b z=>by simp at z;simp[z]
 frame:=fun _ _ _ st k=>⟨st.1.at fun o e=>k I (by simp) o e,st.2.to fun o e=>k d (by simp) o e⟩
 item:=fun i s Q E hi st hQ=>by
  obtain⟨v,hx⟩:∃ p,ks[i]?=some p:=⟨ks[i],by simp[hi]⟩
  refine rawItem st.1 st.2 hx fun g' it' sb=>?_
  exact hQ v g' s.toks hx ⟨it',st.2.to fun o e=>sb.extBut d o ne e⟩ fun b o z e=>sb.extBut b o (fun h=>z (by simp[h])) e
 done:=fun s Q E st hQ=>rawEnd hh st.1 st.2 (Nat.le_refl _) fun g' e'=>hQ g' s.toks fun b o z e=>e' b o (fun h=>z (by simp[h])) e
 self:=fun _ _ _ _ st hQ=>wpAny_pyIter_keyiter st.1 hQ
theorem rawSrc(nd:(d == sysModules)=false):KdlSrc prog w "dict" d d ks.length (fun i v=>ks[i]?=some v) (RawD d ks ep)where
 type:=fun _ x=>x.ty
 there:=fun _ x=>⟨x.lt,x.lt⟩
 keep:=fun _ _ x k=>x.to fun o e=>k d (.inl rfl) o e
 notList:=by decide
 notTuple:=by decide
 hint:=fun _ _ _ _ x q=>kdl_hint_dict x.ty q
 iter:=fun _ _ hh x=>⟨_,_,(fun _ _ q=>rawIter nd x q),rawWalks hh _ d (Nat.ne_of_lt x.lt) ks ep,⟨⟨_,Heap.get?_push_size _ rfl,rfl,rfl⟩,x.to fun o e=>Heap.get?_push_of_some _ e⟩⟩
end
open PySem PySem.W PyProof.Rows
noncomputable def lexlt:List Int->List Int->Bool
 | _,[]=>false
 |[],_ :: _=>true
 |a :: x,b :: y=>decide (a<b) ||(decide (a=b) && lexlt x y)
theorem lexlt_irrefl:∀ x,lexlt x x=false
 |[]=>rfl
 |a :: x=>by simp[lexlt,lexlt_irrefl x]
theorem lexlt_trans:∀ x y z,lexlt x y=true->lexlt y z=true->lexlt x z=true
 | _,_,[],_,h=>by simp[lexlt]at h
 | _,[],_ :: _,h,_=>by simp[lexlt]at h
 |[],_ :: _,_ :: _,_,_=>rfl
 |a :: x,b :: y,c :: z,h,k=>by
  simp only[lexlt,Bool.or_eq_true,Bool.and_eq_true,decide_eq_true_eq]at h k ⊢
  rcases h with h |⟨h,h'⟩ <;> rcases k with k |⟨k,k'⟩
  ·left;lia
  ·left;lia
  ·left;lia
  ·right;exact⟨by lia,lexlt_trans x y z h' k'⟩
theorem lexlt_neg:∀ x y z,lexlt x z=true->lexlt x y=true\/lexlt y z=true
 | _,_,[],h=>by simp[lexlt]at h
 | _,[],_ :: _,_=>.inr rfl
 |[],_ :: _,_ :: _,_=>.inl rfl
 |a :: x,b :: y,c :: z,h=>by
  simp only[lexlt,Bool.or_eq_true,Bool.and_eq_true,decide_eq_true_eq]at h ⊢
  rcases h with h |⟨h,h'⟩
  ·by_cases e:a<b
   ·exact .inl (.inl e)
   ·exact .inr (.inl (by lia))
  ·rcases lexlt_neg x y z h' with q | q
   ·by_cases e:a<b
    ·exact .inl (.inl e)
    ·by_cases e':a=b
     ·exact .inl (.inr ⟨e',q⟩)
     ·exact .inr (.inl (by lia))
   ·by_cases e:a<b
    ·exact .inl (.inl e)
    ·by_cases e':b=c
     ·exact .inr (.inr ⟨e',q⟩)
     ·exact .inr (.inl (by lia))
theorem lexlt_total:∀ x y,lexlt x y=false->lexlt y x=false->x=y
 |[],[],_,_=>rfl
 |[],_ :: _,h,_=>by simp[lexlt]at h
 | _ :: _,[],_,h=>by simp[lexlt]at h
 |a :: x,b :: y,h,k=>by
  simp only[lexlt,Bool.or_eq_false_iff,Bool.and_eq_false_iff,decide_eq_false_iff_not]at h k
  have e:a=b:=by lia
  subst e
  rw[lexlt_total x y (by simpa using h.2) (by simpa using k.2)]
noncomputable abbrev IntsV(ns:List Int)(us:List Value):Prop:=Paired (fun(i:Int) (u:Value)=>∃ t,u=Value.int i t) ns us
theorem IntsV.inj:∀ {ns ms:List Int}{us:List Value},IntsV ns us->IntsV ms us->ns=ms:=by
 intro ns ms us h
 induction h generalizing ms with
 |nil=>intro h';cases h';rfl
 |cons h r ih =>
  intro h'
  cases h' with
  |cons h2 r' =>
   obtain⟨t,e⟩:=h
   obtain⟨t',e'⟩:=h2
   rw[e]at e'
   cases e'
   rw[ih r']
noncomputable def TupI(g:Heap)(v:Value)(ns:List Int):Prop:=∃ a ob its n,v=Value.ref a/\g.get? a=some ob/\ob.cls = .type "tuple"/\ob.data = .seq its n/\IntsV ns its.toList
theorem TupI.inj{g:Heap}{v:Value}{ns ms:List Int}(x:TupI g v ns)(y:TupI g v ms):ns=ms:=by
 obtain⟨a,ob,its,n,rfl,e,_,d,p⟩:=x
 obtain⟨a',ob',its',n',e',q,_,d',p'⟩:=y
 cases e'
 rw[e]at q
 cases q
 rw[d]at d'
 cases d'
 exact p.inj p'
theorem TupI.to{g g':Heap}{v:Value}{ns:List Int}(x:TupI g v ns)(k:∀ b u,v = .ref b->g.get? b=some u->g'.get? b=some u):TupI g' v ns:=by
 obtain⟨a,ob,its,n,rfl,e,r⟩:=x
 exact⟨a,ob,its,n,rfl,k a ob rfl e,r⟩
open Classical in
noncomputable def κT(g:Heap):KeyKind where
 α:=List Int
 blt:=lexlt
 irrefl:=lexlt_irrefl
 trans:=lexlt_trans
 negTrans:=lexlt_neg
 total:=lexlt_total
 keyOf v:=if h:∃ ns,TupI g v ns then some h.choose else none
 dflt:=[]
open Classical in
theorem κT_key{g:Heap}{v:Value}{ns:List Int}(x:TupI g v ns):(κT g).keyOf v=some ns:=by
 have h:∃ ns,TupI g v ns:=⟨ns,x⟩
 show(if h:∃ ns,TupI g v ns then some h.choose else none)=some ns
 rw[dif_pos h,h.choose_spec.inj x]
open Classical in
theorem κT_of{g:Heap}{v:Value}{ns:List Int}(e:(κT g).keyOf v=some ns):TupI g v ns:=by
 have e':(if h:∃ ns,TupI g v ns then some h.choose else none)=some ns:=e
 by_cases h:∃ ns,TupI g v ns
 ·rw[dif_pos h]at e'
  rw[<- Option.some.inj e']
  exact h.choose_spec
 ·rw[dif_neg h]at e'
  cases e'
section
variable{prog:Program}{w:World}{A:Around}{E:Value->Shared->Prop}{s:Shared}
theorem lex_ok{b fin:Bool}{Q:Bool->Shared->Prop}:∀ {ns ms:List Int}{us vs:List Value} (i:Nat),IntsV ns us->IntsV ms vs->fin=decide (ns.length<ms.length)->Q (lexlt ns ms) s->KatLex prog w A b fin Q (us.zip vs) i s:=by
 intro ns ms us vs i h
 induction h generalizing ms vs i with
 |nil =>
  intro h' e q
  rw[e]
  cases h' with
  |nil=>exact kat_nil q
  |cons _ _=>exact kat_nil (show Q (decide (0<_+1)) s by simpa[lexlt]using q)
 | @cons n u ns us h r ih =>
  intro h' e q
  cases h' with
  |nil=>rw[e];exact kat_nil (by simpa[lexlt]using q)
  | @cons m v ms vs h2 r' =>
   obtain⟨t,e1⟩:=h
   obtain⟨t',e2⟩:=h2
   subst e1 e2
   refine kat_cons (wpAny_eqBool_int (kat_go (fun z=>kat_yes ?_) fun z=>kat_no ?_))
   ·have z':n=m:=by simpa using z
    refine ih (i+1) r' (by rw[e];simp) ?_
    have l:lexlt (n :: ns) (m :: ms)=lexlt ns ms:=by simp[lexlt,z']
    rw[<- l]
    exact q
   ·have z':n≠m:=by simpa using z
    have l:lexlt (n :: ns) (m :: ms)=decide (n<m):=by simp[lexlt,z']
    rw[l]at q
    cases hb:(b && i == 0)with
    |true=>exact oneLt_int q
    |false=>exact kat_one _ _ (lt_int q)
theorem ltT_ok{h₁:Heap}{b:Bool}(kp:∀ v ns,TupI h₁ v ns->TupI s.heap v ns):LtOk (κT h₁) (tuples' b) prog w A s:=by
 intro E x y ka kb Q st hk ha hb q
 obtain⟨a,ob,its,n,e1,g1,_,d1,p1⟩:=kp _ _ (κT_of ha)
 obtain⟨a',ob',its',n',e2,g2,_,d2,p2⟩:=kp _ _ (κT_of hb)
 rw[lt'_eq]
 refine wpS_bind (wpS_get ?_)
 rw[hk,e1,e2]
 have l1:ka.length=its.size:=by rw[p1.length];simp
 have l2:kb.length=its'.size:=by rw[p2.length];simp
 refine wpS_bind (wpS_lift (wpAny_attempt (kat_lt g1 d1 g2 d2 (lex_ok (ns:=ka) (ms:=kb) 0 p1 p2 (by rw[l1,l2]) ⟨rfl,?_⟩))))
 exact wpS_pure q
theorem map2_pairs:∀ {l:List Keyed},(∀ p∈l,p.1=p.2)->(l.map (·.2)).zip (l.map (·.2))=l
 |[],_=>rfl
 |p :: l,h=>by
  have e:p.1=p.2:=h p (List.mem_cons_self ..)
  show(p.2,p.2) :: (l.map (·.2)).zip (l.map (·.2))=_
  rw[map2_pairs fun q hq=>h q (List.mem_cons_of_mem _ hq)]
  congr 1
  exact Prod.ext e.symm rfl
theorem mem_zip_self:∀ {l:List Value}{p:Keyed},p∈l.zip l->p.1=p.2/\p.2∈l
 |[],p,h=>by simp at h
 |v :: l,p,h=>by
  rcases List.mem_cons.mp (show p∈(v,v) :: l.zip l from h)with e | e
  ·rw[e];exact⟨rfl,List.mem_cons_self ..⟩
  ·exact⟨(mem_zip_self e).1,List.mem_cons_of_mem _ (mem_zip_self e).2⟩
theorem map2_zip:∀ {l:List Value},(l.zip l).map (·.2)=l
 |[]=>rfl
 |v :: l=>by show v :: (l.zip l).map (·.2)=_;rw[map2_zip]
theorem back_pairs{xs:Array Keyed}{vs:List Value}(hp:xs.Perm (pairsOf vs)):xs=pairsOf (xs.toList.map (·.2))/\(xs.toList.map (·.2)).Perm vs:=by
 have hp':xs.toList.Perm (vs.zip vs):=by
  have:=Array.perm_iff_toList_perm.mp hp
  rw[pairsOf_toList]at this
  exact this
 refine⟨?_,?_⟩
 ·apply Array.ext'
  rw[pairsOf_toList,map2_pairs fun p hq=>(mem_zip_self (hp'.mem_iff.mp hq)).1]
 ·have:=hp'.map (·.2)
  rw[map2_zip]at this
  exact this
theorem sort_gen{κ:KeyKind}{kd:SortKind}{a:Addr}{vs:List Value}{n:Nat}{P:Fin->Shared->Prop}(ho:s.heap.get? a=some (seqObj "list" vs.toArray n))(h0:KeysOf κ (pairsOf vs))(hl:vs.length<64)
  (hk:2<=vs.length->∀ g:Heap,(∀ b u,b≠a->s.heap.get? b=some u->g.get? b=some u)->LtOk κ kd prog w A { s with heap:=g }/\∀ R:SortKind->Shared->Prop,R kd { s with heap:=g }->wpAny (model prog w) A (keyKind' vs.toArray) R E { s with heap:=g })
  (h:∀ (ws:List Value) (g:Heap) (c:Nat),ws.Perm vs->SortedToK κ (pairsOf ws) ws.length->(∀ b u,b≠a->s.heap.get? b=some u->g.get? b=some u)->g.get? a=some (seqObj "list" ws.toArray c)->P (.done (.ret .none)) { s with heap:=g }) :
  wpAny (model prog w) A (Builtin.«list.sort» ⟨[.ref a],[]⟩) P E s:=by
 have lt0:a<s.heap.objs.size:=Heap.lt_size ho
 have k1:∀ b u,b≠a->s.heap.get? b=some u->(s.heap.update a (Obj.mapSeq fun _=>#[])).get? b=some u:=fun b u ne e=>by rw[Heap.get?_update_ne _ _ _ _ ne];exact e
 obtain⟨c1,g1⟩:∃ c1,(s.heap.update a (Obj.mapSeq fun _=>#[])).get? a=some (seqObj "list" #[] c1):=⟨_,get?_update_seq ho _⟩
 generalize hg1:s.heap.update a (Obj.mapSeq fun _=>#[])=G1 at k1 g1
 have k2:∀ b u,b≠a->s.heap.get? b=some u->((G1.push (seqObj "tuple" vs.toArray 0)).push (seqObj "list" #[] 0)).get? b=some u:=fun b u ne e=>Heap.get?_push_of_some _ (Heap.get?_push_of_some _ (k1 b u ne e))
 have g2:((G1.push (seqObj "tuple" vs.toArray 0)).push (seqObj "list" #[] 0)).get? a=some (seqObj "list" #[] c1):=Heap.get?_push_of_some _ (Heap.get?_push_of_some _ g1)
 rw[list_sort_plain]
 refine wpAny_bind (listItems_at ho rfl (wpAny_bind (listUpdate_at ho rfl ?_ (hsz:=by rw[List.size_toArray,sizeLine_eq];lia))))
 rw[hg1]
 refine wpAny_bind (seqEpoch_at g1 rfl (wpAny_bind (wpAny_newTuple ?_ (by show vs.length<=_;rw[sizeLine_eq];lia))))
 refine wpAny_bind (wpAny_newList (wpAny_holding ?_))
 show wpAny (model prog w) A _ P E { s with heap:=(G1.push (seqObj "tuple" vs.toArray 0)).push (seqObj "list" #[] 0) }
 generalize (G1.push (seqObj "tuple" vs.toArray 0)).push (seqObj "list" #[] 0)=G2 at k2 g2
 dsimp only
 have fin:∀ st':SortSt,(arrOf st').Perm (pairsOf vs)->SortedToK κ (arrOf st') (pairsOf vs).size->P (.done (.ret .none)) { s with heap:=G2.update a (Obj.mapSeq fun _=>(arrOf st').map (·.2)) }:=fun st' hp hs=>by
  obtain⟨e,p⟩:=back_pairs hp
  obtain⟨c3,g3⟩:∃ c3,(G2.update a (Obj.mapSeq fun _=>(arrOf st').map (·.2))).get? a=some (seqObj "list" ((arrOf st').map (·.2)) c3):=⟨_,get?_update_seq g2 _⟩
  refine h ((arrOf st').toList.map (·.2)) _ c3 p ?_ (fun b u ne z=>by rw[Heap.get?_update_ne _ _ _ _ ne];exact k2 b u ne z) ?_
  ·rw[<- e]
   have l2:(pairsOf vs).size=((arrOf st').toList.map (·.2)).length:=by rw[pairsOf_size,p.length_eq]
   rw[<- l2]
   exact hs
  ·rw[g3]
   congr 2
   apply Array.ext'
   simp
 by_cases h2:vs.toArray.size<2
 ·rw[if_pos h2,if_pos h2]
  refine wpAny_bind (wpAny_pure ?_)
  rw[StateT.run_pure]
  refine wpAny_bind (wpAny_pure ?_)
  dsimp only
  refine wpAny_bind (seqEpoch_at g2 rfl (wpAny_bind (listUpdate_at g2 rfl ?_ (hsz2:=by rw[Array.size_map];show(pairsOf vs).size<=_;rw[pairsOf_size,sizeLine_eq];lia))))
  simp only[bne_self_eq_false,Bool.false_eq_true,if_false]
  refine wpAny_pure (fin (SortSt.mk' general' (vs.toArray.zip vs.toArray) #[] 7 none) (Array.Perm.refl _) fun i j ij jl=>?_)
  have e:i=j:=by
   rw[pairsOf_size]at jl
   simp only[List.size_toArray]at h2
   lia
  rw[e]
  exact KeyOrd.kle_refl _
 ·have h2':2<=vs.length:=by simpa using h2
  obtain⟨lo,kk⟩:=hk h2' G2 k2
  rw[if_neg h2,if_neg h2]
  refine wpAny_bind (kk _ ?_)
  refine wpAny_bind (wpAny_mono (runs_okZ (κ:=κ) (kd:=kd) (a₀:=pairsOf vs) (st:=SortSt.mk' kd (vs.toArray.zip vs.toArray) #[] 7 none) (Q:=fun _ st'=>(arrOf st').Perm (pairsOf vs)/\failedOf st'=none/\SortedToK κ (arrOf st') (pairsOf vs).size)
   lo h0 ⟨Array.Perm.refl _,rfl,rfl,rfl,fun k z=>absurd z (Nat.not_lt_zero _)⟩ (by rw[pairsOf_size];exact h2') (by rw[pairsOf_size];exact hl) fun st' a1 a2 a3=>⟨a1,a2,fun i j ij jl=>by
    have:=a3 i j ij jl
    rw[Nat.zero_add,Nat.zero_add]at this
    exact this⟩) ?_ fun _ _ e=>e)
  rintro⟨⟨⟩,st'⟩ s' ⟨rfl,hp,hf,hs⟩
  dsimp only
  refine wpAny_bind (seqEpoch_at g2 rfl (wpAny_bind (listUpdate_at g2 rfl ?_ (hsz2:=by refine Nat.le_trans (Nat.le_of_eq ((Array.size_map ..).trans (hp.size_eq.trans (pairsOf_size _)))) ?_;rw[sizeLine_eq];lia))))
  rw[hf]
  simp only[bne_self_eq_false,Bool.false_eq_true,if_false]
  exact wpAny_pure (fin st' hp hs)
theorem sort_at{κ:KeyKind}{kd:SortKind}{a:Addr}{vs:List Value}{n:Nat}{P:Fin->Shared->Prop}(ho:s.heap.get? a=some (seqObj "list" vs.toArray n))(h0:KeysOf κ (pairsOf vs))(hl:vs.length<64)
  (hk:2<=vs.length->∀ g:Heap,(∀ b u,b≠a->s.heap.get? b=some u->g.get? b=some u)->LtOk κ kd prog w A { s with heap:=g }/\∀ R:SortKind->Shared->Prop,R kd { s with heap:=g }->wpAny (model prog w) A (keyKind' vs.toArray) R E { s with heap:=g })
  (h:∀ (ws:List Value) (g:Heap) (c:Nat),ws.Perm vs->SortedToK κ (pairsOf ws) ws.length->(∀ b u,b≠a->s.heap.get? b=some u->g.get? b=some u)->g.get? a=some (seqObj "list" ws.toArray c)->P (.done (.ret .none)) { s with heap:=g }) :
  wpAny (model prog w) A (Builtin.«list.sort» ⟨[.ref a],[]⟩) P E s:=sort_gen ho h0 hl hk h
end
end Srt
namespace L2
open PySem PySem.W PyProof.Rows Srt
theorem intsV_of:∀ {ns:List Int}{us:List Value},Vals (ns.map V.int) us->IntsV ns us
 |[],_,.nil=>.nil
 |n :: ns,_,.cons r t=>.cons r (intsV_of t)
noncomputable def keyA(g:Heap)(a:Addr):List Int:=(show Option (List Int)from(κT g).keyOf (.ref a)).getD []
theorem keyA_eq{g:Heap}{a:Addr}{k:List Int}(x:TupI g (.ref a) k):keyA g a=k:=by
 unfold keyA
 rw[κT_key x]
 rfl
noncomputable def unref:Value->Addr
 | .ref a=>a
 | _=>(0:Nat)
section
variable{X:Cx}{pins:List (Addr×Obj)}{σ:St}{H:Hp}{s:Shared}
theorem tupI_of(I:Inv X pins σ H s){a:Addr}{ns:List Int}(h:H a=some (.tup (ns.map V.int))):TupI s.heap (.ref a) ns:=by
 obtain⟨its,r,⟨o,e,c,n,d⟩,_⟩:=I.tuple (SqT.of h)
 exact⟨a,o,_,n,rfl,e,c,d,intsV_of r⟩
theorem looks_int{M:Model}{h:Heap}{i:Int}{t:Tok}:Looks M h (typeOf (.int i t)) (Value.type "int"):=Looks.now
theorem tups_of{g:Heap}:∀ {as:List Addr}{ks:List (List Int)},Paired (fun a k=>TupI g (.ref a) k/\k≠[]) as ks->∃ fs:List Value,KatTups g (as.map .ref) fs/\fs.length=as.length/\∀ v∈fs,∃ i t,v=Value.int i t:=by
 intro as ks h
 induction h with
 |nil=>exact⟨[],trivial,rfl,fun _ h=>nomatch h⟩
 | @cons a k as ks h r ih =>
  obtain⟨⟨a',o,its,n,e,g1,c,d,p⟩,ne⟩:=h
  cases e
  obtain⟨fs,t,l,z⟩:=ih
  cases k with
  |nil=>exact absurd rfl ne
  |cons i k =>
   obtain⟨il⟩:=its
   cases p with
   |cons r1 r2 =>
    obtain⟨tk,rfl⟩:=r1
    refine⟨_ :: fs,KatTups.cons g1 c d rfl t,by simp[l],fun v hv=>?_⟩
    rcases List.mem_cons.mp hv with e | e
    ·exact⟨i,tk,e⟩
    ·exact z v e
theorem sort_new{L:Addr}{A:Around}{E:Value->Shared->Prop}{as:List Addr}{ks:List (List Int)}{P:Fin->Shared->Prop}(ho:s.heap.get? L=some (seqObj "list" (as.map Value.ref).toArray 0))(hT:Paired (fun a k=>TupI s.heap (.ref a) k/\k≠[]) as ks)(hl:as.length<64)
  (h:∀ (bs:List Addr) (ns:List (List Int)) (g:Heap) (c:Nat),bs.Perm as->ns.Perm ks->ns.Pairwise (fun x y=>lexlt y x=false)->Paired (fun a k=>TupI s.heap (.ref a) k) bs ns->(∀ b u,b≠L->s.heap.get? b=some u->g.get? b=some u)->g.get? L=some (seqObj "list" (bs.map Value.ref).toArray c) ->
   P (.done (.ret .none)) { s with heap:=g }):wpAny (model X.prog X.w) A (Builtin.«list.sort» ⟨[.ref L],[]⟩) P E s:=by
 have neL:∀ v ns,TupI s.heap v ns->v≠.ref L:=fun v ns x e=>by
  obtain⟨a,o,its,n,rfl,g1,c,_⟩:=x
  cases e
  rw[ho]at g1
  cases g1
  exact absurd (show Value.type "list" = Value.type "tuple" from c) (by decide)
 have lenk:as.length=ks.length:=hT.length
 have kp:∀ g:Heap,(∀ b u,b≠L->s.heap.get? b=some u->g.get? b=some u)->∀ v ns,TupI s.heap v ns->TupI g v ns:=fun g k v ns x=>x.to fun b u e z=>k b u (fun q=>neL v ns x (by rw[e,q])) z
 have memk:∀ v∈as.map Value.ref,∃ k,TupI s.heap v k:=fun v hv=>by
  obtain⟨a,ha,rfl⟩:=List.mem_map.mp hv
  clear h ho neL kp hl lenk hv
  induction hT with
  |nil=>cases ha
  |cons r _ ih =>
   rcases List.mem_cons.mp ha with e | e
   ·rw[e];exact⟨_,r.1⟩
   ·exact ih e
 refine sort_at (κ:=κT s.heap) (kd:=tuples' true) ho (fun p hp=>?_) (by rw[List.length_map];exact hl) (fun l2 g k=>⟨ltT_ok (kp g k),fun R hR=>?_⟩) fun ws g c pw sw k gL=>?_
 ·rw[pairsOf_toList]at hp
  obtain⟨e1,e2⟩:=Srt.mem_zip_self hp
  obtain⟨kk,x⟩:=memk p.2 e2
  rw[e1]
  exact⟨kk,κT_key x⟩
 ·have hT':Paired (fun a k=>TupI g (.ref a) k/\k≠[]) as ks:=Paired.mapP hT fun a b z=>⟨kp g k _ _ z.1,z.2⟩
  obtain⟨fs,t,l,z⟩:=tups_of hT'
  by_cases e0:fs=[]
  ·rw[e0]at l
   rw[List.length_map]at l2
   simp at l
   lia
  ·refine kat_kind (T:=Value.type "int") t (List.length_pos_iff.mpr e0) (fun v hv=>?_) (by decide) ?_
   ·obtain⟨i,tk,rfl⟩:=z v hv
    exact looks_int
   ·have e:(Value.type "int" != Value.type "tuple")=true:=by decide
    rw[e]
    exact hR
 ·-- the values are refs again,the keys a permutation
  have unr:∀ l:List Value,(∀ v∈l,∃ a,v=Value.ref a)->(l.map unref).map Value.ref=l:=fun l hl=>by
   induction l with
   |nil=>rfl
   |cons v l ih =>
    obtain⟨a,rfl⟩:=hl v (List.mem_cons_self ..)
    rw[List.map_cons,List.map_cons,ih fun v hv=>hl v (List.mem_cons_of_mem _ hv)]
    rfl
  have eb:(ws.map unref).map Value.ref=ws:=unr ws fun v hv=>by
   obtain⟨a,_,rfl⟩:=List.mem_map.mp (pw.mem_iff.mp hv)
   exact⟨a,rfl⟩
  have pb:(ws.map unref).Perm as:=by
   have:=pw.map unref
   rw[List.map_map]at this
   have e:(as.map (unref ∘ Value.ref))=as:=by
    rw[show(unref ∘ Value.ref)=id from rfl,List.map_id]
   rw[e]at this
   exact this
  generalize ws.map unref=bs at eb pb
  subst eb
  have ek:ks=as.map (keyA s.heap):=by
   clear h ho neL kp hl lenk memk pw sw pb
   induction hT with
   |nil=>rfl
   |cons r _ ih=>rw[List.map_cons,keyA_eq r.1,<- ih]
  have kb:∀ b∈bs,TupI s.heap (.ref b) (keyA s.heap b):=fun b hb=>by
   obtain⟨k,x⟩:=memk (.ref b) (List.mem_map.mpr ⟨b,pb.mem_iff.mp hb,rfl⟩)
   rw[keyA_eq x]
   exact x
  refine h bs (bs.map (keyA s.heap)) g c pb (by rw[ek];exact pb.map _) ?_ ?_ k gL
  ·rw[List.pairwise_iff_getElem]
   intro i j hi hj ij
   rw[List.length_map]at hi hj
   have z:=sw i j (Nat.le_of_lt ij) (by rw[List.length_map];exact hj)
   have kk:∀ m (hm:m<bs.length),KK (κT s.heap) (pairsOf (bs.map Value.ref)) m=keyA s.heap bs[m]:=fun m hm=>by
    have e:(pairsOf (bs.map Value.ref))[m]?=some (Value.ref bs[m],Value.ref bs[m]):=by simp[pairsOf,hm]
    unfold KK
    rw[e]
    rfl
   rw[kk i hi,kk j hj]at z
   rw[List.getElem_map,List.getElem_map]
   exact z
  ·clear h ho neL kp hl lenk memk pw sw pb gL
   induction bs with
   |nil=>exact .nil
   |cons b bs ih=>exact .cons (kb b (List.mem_cons_self ..)) (ih fun b hb=>kb b (List.mem_cons_of_mem _ hb))
theorem call_sortedD(hc:X.calm=true):CallR X (.builtin "sorted") (fun xs H Q=>∃ d kvs ks,xs=[V.ref d]/\H d=some (.dT kvs)/\kvs.map (·.1)=List.map (List.map Sum.inl) ks/\(∀ k∈ks,k≠[])/\kvs.length<64 /\
  ∀ (l:Addr) (as:List Addr) (ns:List (List Int)),H l=none->ns.Perm ks->ns.Pairwise (fun x y=>lexlt y x=false)->Paired (fun a n=>H a=some (.tup (n.map V.int))) as ns->Q (.ref l) (upd H l (.lst (as.map V.ref)))):=by
 intro pins s σ H xs us Q I r h
 obtain⟨d,kvs,ks,rfl,hd,hks,hne,hlen,q⟩:=h
 obtain⟨u,rfl,rx⟩:=vals1 r
 cases rx
 obtain⟨z,nsys,xs,pr,o,es,ep,go,ex,dt,ee,nd⟩:=I.hok d _ hd
 have hpl:xs.length=kvs.length:=pr.length.symm
 have hT:Paired (fun a k=>(H a=some (.tup (k.map V.int))/\k≠[])) (xs.map fun q=>q.2.1) ks:=by
  clear q hd hlen z nd go ex dt ee hpl
  induction pr generalizing ks with
  |nil =>
   cases ks with
   |nil=>exact .nil
   |cons _ _=>simp at hks
  | @cons p x l1 l2 r1 r2 ih =>
   cases ks with
   |nil=>simp at hks
   |cons k ks =>
    simp only[List.map_cons,List.cons.injEq]at hks
    refine .cons ⟨?_,hne k (List.mem_cons_self ..)⟩ (ih ks hks.2 fun k hk=>hne k (List.mem_cons_of_mem _ hk))
    rw[r1.2.1,hks.1,List.map_map]
    rfl
 have raw:RawD d (xs.map fun q=>Value.ref q.2.1) ep s.heap:=⟨o,es,go,ex,dt,by rw[ee,List.map_map];rfl⟩
 refine Calls.call_function_entry kind_sorted plain_sorted entry_sorted (args_sorted1 _) ?_
 unfold Builtin.«sorted»
 refine wpAny_bind (m:=checkCount "sorted" 1 1 _) (wpAny_pure (wpAny_bind (kdu_collect (A:=X.A.in1) (rawSrc nsys) (show X.A.handled=none from I.ok.hd hc) raw (by rw[List.length_map,hpl,sizeLine_eq];lia) fun h' tk acc kp hacc=>?_)))
 have eacc:acc.toList=(xs.map fun q=>q.2.1).map Value.ref:=by
  apply List.ext_getElem?
  intro i
  by_cases hi:i<acc.size
  ·have e1:acc.toList[i]?=some acc[i]:=by rw[Array.getElem?_toList,Array.getElem?_eq_getElem hi]
   have e2:=hacc.2 i acc[i] (Array.getElem?_eq_getElem hi)
   rw[e1,List.map_map]
   exact e2.symm
  ·have l0:=hacc.1
   rw[List.length_map]at l0
   rw[List.getElem?_eq_none (by rw[Array.length_toList];omega),List.getElem?_eq_none (by rw[List.length_map,List.length_map];lia)]
 rw[eacc]
 generalize exs:(xs.map fun q=>q.2.1)=as0 at hT
 have las:as0.length<64:=by rw[<- exs,List.length_map];lia
 refine wpAny_bind (wpAny_newList ?_ (by rw[List.length_map,sizeLine_eq];lia))
 have gL:(h'.push (seqObj "list" (as0.map Value.ref).toArray 0)).get? h'.objs.size=some (seqObj "list" (as0.map Value.ref).toArray 0):=Heap.get?_push_size _ rfl
 have I1:Inv X pins σ H { s with heap:=h',toks:=tk }:=I.kept kp
 have kp2:∀ b u,h'.get? b=some u->(h'.push (seqObj "list" (as0.map Value.ref).toArray 0)).get? b=some u:=fun b u e=>Heap.get?_push_of_some _ e
 have tT:Paired (fun a k=>TupI (h'.push (seqObj "list" (as0.map Value.ref).toArray 0)) (.ref a) k/\k≠[]) as0 ks:=Paired.mapP hT fun a k z=>⟨(tupI_of I1 z.1).to fun b u _ e=>kp2 b u e,z.2⟩
 have memH:∀ a∈as0,∃ k:List Int,H a=some (.tup (k.map V.int)):=fun a ha=>by
  clear q exs eacc raw gL tT kp2 las hks hne hlen
  induction hT with
  |nil=>cases ha
  |cons r _ ih =>
   rcases List.mem_cons.mp ha with e | e
   ·rw[e];exact⟨_,r.1⟩
   ·exact ih e
 refine wpAny_bind (wpAny_holding (wpAny_call_entry slot_list_sort ⟨_,gL,rfl⟩ entry_list_sort (sort_new (X:=X) (s:={ s with heap:=h'.push (seqObj "list" (as0.map Value.ref).toArray 0),toks:=tk }) gL tT las fun bs ns g c pb pn pw pt kp3 gg=>⟨_,rfl,?_⟩) (args_list_sort _)))
 refine wpAny_pure ⟨_,rfl,.ref h'.objs.size,_,I1.laid (t':=tk) (a:=h'.objs.size) (o:=.lst (bs.map V.ref)) (fun b u e=>kp3 b u (Nat.ne_of_lt (Heap.lt_size e)) (kp2 b u e)) (Nat.le_refl _) (show ObjOk X.prog X.w _ g _ (.lst (bs.map V.ref))from⟨?_,bs.map Value.ref,c,?_,gg⟩),rfl,q _ bs ns (I1.hok.fresh (Nat.le_refl _)) pn pw ?_⟩
 ·rw[List.length_map,pb.length_eq,sizeLine_eq];lia
 ·clear pb pt gg
  induction bs with
  |nil=>exact .nil
  |cons b bs ih=>exact .cons rfl ih
 ·have memB:∀ a∈bs,∃ k:List Int,H a=some (.tup (k.map V.int)):=fun a ha=>memH a (pb.mem_iff.mp ha)
  clear pb gg pn pw
  induction pt with
  |nil=>exact .nil
  | @cons a k l1 l2 r1 _ ih =>
   refine .cons ?_ (ih fun a ha=>memB a (List.mem_cons_of_mem _ ha))
   obtain⟨k',e⟩:=memB a (List.mem_cons_self ..)
   rw[e,r1.inj ((tupI_of I1 e).to fun b u _ z=>kp2 b u z)]
end
open PySem PySem.W PyProof.Rows
section
variable{X:Cx}
theorem call_sum(hc:X.calm=true):CallR X (.builtin "sum") (fun xs H Q=>∃ (l:Addr) (ns:List Int),xs=[V.ref l]/\SqL X.K H l (ns.map V.int)/\Q (.int ns.sum) H):=by
 intro pins s σ H xs us Q I r h
 obtain⟨l,ns,rfl,hq,q⟩:=h
 obtain⟨u,rfl,rx⟩:=vals1 r
 cases rx
 obtain⟨its,r',pl,hz⟩:=I.list hq
 have hi:=intsAre_of r'
 obtain⟨ys,hx⟩:=hi.allInts.items
 have pl':s.heap.IsList l (intItems ys):=hx▸pl.isList
 refine sum_intListG (I.ok.hd hc) pl' fun h' tk t' hk=>?_
 have e1:ns=ys.toList.map (·.1):=by
  rw[<- nums_intItems,<- hx]
  exact(show numsOf its.toArray.toList=ns from hi.numsOf).symm
 have e2:preSum (numAt ys) ys.size=ns.sum:=by rw[preSum_eq,List.take_of_length_le (by simp),e1]
 rw[e2]
 exact⟨.int ns.sum,H,I.kept hk,⟨t',rfl⟩,q⟩
theorem call_range(X:Cx):CallR X (.type "range") (fun xs H Q=>∃ j:Int,xs=[V.int j]/\∀ p,H p=none->Q (.ref p) (upd H p (.rng 0 j))):=by
 intro pins s σ H xs us Q I r h
 obtain⟨j,rfl,q⟩:=h
 obtain⟨u,rfl,t,rfl⟩:=vals1 r
 refine call_range_1 ⟨.ref s.heap.objs.size,_,I.laid (t':=s.toks+1+1) (a:=s.heap.objs.size) (o:=.rng 0 j) (fun b o e=>Heap.get?_push_of_some _ e) (Nat.le_refl _) ⟨_,_,_,Heap.get?_push_size _ rfl⟩,rfl,q _ (I.hok.fresh (Nat.le_refl _))⟩
noncomputable def upto(n:Nat):List Int:=(List.range n).map fun(i:Nat)=>(i:Int)
theorem upto_length(n:Nat):(upto n).length=n:=by simp[upto]
theorem call_list_rng(hc:X.calm=true):CallR X (.type "list") (fun xs H Q=>∃ p j,xs=[V.ref p]/\H p=some (.rng 0 j)/\-(2 ^ 62)<=j/\j<=1000000/\∀ l,H l=none->Q (.ref l) (upd H l (.lst ((upto j.toNat).map V.int)))):=by
 intro pins s σ H xs us Q I r h
 obtain⟨p,j,rfl,hp,h1,h2,q⟩:=h
 obtain⟨u,rfl,rx⟩:=vals1 r
 cases rx
 obtain⟨t,u,v,e⟩:=I.hok p _ hp
 have rs:Builtin.Range.rangeSize 0 j 1=((j.toNat:Nat):Int):=by rw[rangeSize_one];split <;> lia
 refine call_list_range (I.ok.hd hc) (show IsRange s.heap p 0 j 1 t u v from e) (small_one (by lia) (by lia) h1 (by lia)) rs (by lia) fun h' tk acc c kp hD hI=>?_
 refine⟨.ref s.heap.objs.size,_,I.laid (t':=tk) (a:=s.heap.objs.size) (o:=.lst ((upto j.toNat).map V.int)) kp (Nat.le_refl _) (show ObjOk X.prog X.w _ h' _ (.lst ((upto j.toNat).map V.int))from⟨?_,acc.toList,c,?_,by rw[Array.toArray_toList];exact hD⟩),rfl,q _ (I.hok.fresh (Nat.le_refl _))⟩
 ·rw[List.length_map,upto_length,sizeLine_eq];lia
 ·have len:acc.toList.length=j.toNat:=by rw[Array.length_toList];exact hI.1
  have key:∀ (n:Nat) (a:List Value) (b:Nat),a.length=n->(∀ i u,a[i]?=some u->∃ t,u=Value.int ((b+i:Nat):Int) t)->Vals (((List.range' b n).map fun(i:Nat)=>(i:Int)).map V.int) a:=by
   intro n
   induction n with
   |zero=>intro a b e _;rw[List.eq_nil_of_length_eq_zero e];exact .nil
   |succ n ih =>
    intro a b e f
    cases a with
    |nil=>simp at e
    |cons u a =>
     rw[List.range'_succ,List.map_cons,List.map_cons]
     refine .cons (f 0 u rfl) (ih a (b+1) (by simpa using e) fun i u hu=>?_)
     obtain⟨t,z⟩:=f (i+1) u (by simpa using hu)
     exact⟨t,by rw[z];congr 1;lia⟩
  have:=key j.toNat acc.toList 0 len fun i u hu=>by
   obtain⟨t,z⟩:=hI.2 i u (by rw[<- Array.getElem?_toList];exact hu)
   exact⟨t,by rw[z];congr 1;lia⟩
  rw[<- List.range_eq_range']at this
  exact this
theorem eqAt_ints{A:Around}{s:Shared}{ns ms:List Int}{us vs:List Value}(r:Vals (ns.map V.int) us)(r':Vals (ms.map V.int) vs)(j:Nat)(h1:j<us.toArray.size)(h2:j<vs.toArray.size):SeqAt.EqAt A s us.toArray[j] vs.toArray[j] (decide (ns[j]?=ms[j]?)):=by
 have l1:=r.length
 have l2:=r'.length
 simp only[List.length_map,List.size_toArray]at l1 l2 h1 h2
 obtain⟨u,e1,t1,q1⟩:=r.get (i:=j) (x:=V.int (ns[j]'(by lia))) (by rw[List.getElem?_map,List.getElem?_eq_getElem (by lia)];rfl)
 obtain⟨u',e2,t2,q2⟩:=r'.get (i:=j) (x:=V.int (ms[j]'(by lia))) (by rw[List.getElem?_map,List.getElem?_eq_getElem (by lia)];rfl)
 have g1:us.toArray[j]=u:=by
  have:us[j]?=some us.toArray[j]:=by simp[h1]
  rw[this]at e1
  exact Option.some.inj e1
 have g2:vs.toArray[j]=u':=by
  have:vs[j]?=some vs.toArray[j]:=by simp[h2]
  rw[this]at e2
  exact Option.some.inj e2
 rw[g1,g2,q1,q2]
 have e:decide (ns[j]?=ms[j]?)=(ns[j]'(by lia) == ms[j]'(by lia)):=by
  rw[List.getElem?_eq_getElem (by lia),List.getElem?_eq_getElem (by lia),Bool.beq_eq_decide_eq]
  simp
 rw[e]
 exact SeqAt.EqAt.int_int _ _ _ _
end
theorem star_sub{a b:Expr}{pos:Pos}{rest:List Expr}{env:Env}:starEach (.Subscript a b pos :: rest) env=(false,eval (.Subscript a b pos) env) :: starEach rest env:=rfl
theorem star_call{f:Expr}{args:List Expr}{ks:List Keyword}{pos:Pos}{rest:List Expr}{env:Env}:starEach (.Call f args ks pos :: rest) env=(false,eval (.Call f args ks pos) env) :: starEach rest env:=rfl
theorem star_bin{a b:Expr}{op:Operator}{pos:Pos}{rest:List Expr}{env:Env}:starEach (.BinOp a op b pos :: rest) env=(false,eval (.BinOp a op b pos) env) :: starEach rest env:=rfl
theorem star_comp{e:Expr}{gs:List Comprehension}{sc:Scope}{pos:Pos}{rest:List Expr}{env:Env}:starEach (.ListComp e gs sc pos :: rest) env=(false,eval (.ListComp e gs sc pos) env) :: starEach rest env:=rfl
theorem star_lst{es:List Expr}{pos:Pos}{rest:List Expr}{env:Env}:starEach (.List es pos :: rest) env=(false,eval (.List es pos) env) :: starEach rest env:=rfl
theorem star_tup{es:List Expr}{k:Nat}{pos:Pos}{rest:List Expr}{env:Env}:starEach (.Tuple es k pos :: rest) env=(false,eval (.Tuple es k pos) env) :: starEach rest env:=rfl
section
variable{X:Cx}{es:List Expr}{te:TE}{t:TA}{pos:Pos}
theorem pa_sub{a b:Expr}(ha:PE X (.Subscript a b pos) te)(hr:PA X es t):PA X (.Subscript a b pos :: es) (tCons te t):=pa_cons ha hr (hs:=star_sub)
theorem pa_call{f:Expr}{args:List Expr}{ks:List Keyword}(ha:PE X (.Call f args ks pos) te)(hr:PA X es t):PA X (.Call f args ks pos :: es) (tCons te t):=pa_cons ha hr (hs:=star_call)
theorem pa_bin{a b:Expr}{op:Operator}(ha:PE X (.BinOp a op b pos) te)(hr:PA X es t):PA X (.BinOp a op b pos :: es) (tCons te t):=pa_cons ha hr (hs:=star_bin)
theorem pa_comp{e:Expr}{gs:List Comprehension}{sc:Scope}(ha:PE X (.ListComp e gs sc pos) te)(hr:PA X es t):PA X (.ListComp e gs sc pos :: es) (tCons te t):=pa_cons ha hr (hs:=star_comp)
theorem pa_lst{xs:List Expr}(ha:PE X (.List xs pos) te)(hr:PA X es t):PA X (.List xs pos :: es) (tCons te t):=pa_cons ha hr (hs:=star_lst)
theorem pa_tup{xs:List Expr}{k:Nat}(ha:PE X (.Tuple xs k pos) te)(hr:PA X es t):PA X (.Tuple xs k pos :: es) (tCons te t):=pa_cons ha hr (hs:=star_tup)
theorem star_cst{c:Const}{k:Nat}{pos:Pos}{rest:List Expr}{env:Env}:starEach (.Constant c k pos :: rest) env=(false,eval (.Constant c k pos) env) :: starEach rest env:=rfl
theorem star_nam{x:Str}{pos:Pos}{rest:List Expr}{env:Env}:starEach (.Name x pos :: rest) env=(false,eval (.Name x pos) env) :: starEach rest env:=rfl
theorem pa_cst{c:Const}{k:Nat}(ha:PE X (.Constant c k pos) te)(hr:PA X es t):PA X (.Constant c k pos :: es) (tCons te t):=pa_cons ha hr (hs:=star_cst)
theorem pa_nam{x:Str}(ha:PE X (.Name x pos) te)(hr:PA X es t):PA X (.Name x pos :: es) (tCons te t):=pa_cons ha hr (hs:=star_nam)
end
end L2
namespace Srt
open PySem PySem.W PyProof.Rows
noncomputable def SeqK(b:Bool)(g:Heap)(l:Addr)(xs:Array Value):Prop:=match b with
 |true=>g.IsTuple l xs
 |false=>g.IsList l xs
noncomputable def ItK(b:Bool)(g:Heap)(it l:Addr)(i:Nat):Prop:=match b with
 |true=>g.IsTupleIter it l i
 |false=>g.IsListIter it l i
noncomputable def itO(b:Bool)(l:Addr):Obj:=match b with
 |true=>{ cls:=.type "tuple_iterator",data:=.fields #[.ref l,.int 0 0] }
 |false=>{ cls:=.type "list_iterator",data:=.fields #[.ref l,.int 0 0] }
theorem SeqK.to{b:Bool}{g g':Heap}{l:Addr}{xs:Array Value}(x:SeqK b g l xs)(k:∀ o,g.get? l=some o->g'.get? l=some o):SeqK b g' l xs:=by
 cases b
 ·exact Heap.IsList.at x k
 ·exact Heap.IsTuple.at x k
theorem ItK.to{b:Bool}{g g':Heap}{it l:Addr}{i:Nat}(x:ItK b g it l i)(k:∀ o,g.get? it=some o->g'.get? it=some o):ItK b g' it l i:=by
 cases b
 ·exact Heap.IsListIter.at x k
 ·obtain⟨o,e,r⟩:=(show g.IsTupleIter it l i from x)
  exact⟨o,k o e,r⟩
theorem ItK.lt{b:Bool}{g:Heap}{it l:Addr}{i:Nat}(x:ItK b g it l i):∃ o,g.get? it=some o/\∀ v,o.data≠.cell v:=by
 cases b
 ·obtain⟨o,e,c,d⟩:=(show g.IsListIter it l i from x)
  exact⟨o,e,fun v z=>by rw[d]at z;cases z⟩
 ·obtain⟨o,e,c,d⟩:=(show g.IsTupleIter it l i from x)
  exact⟨o,e,fun v z=>by rw[d]at z;cases z⟩
section
variable{prog:Program}{w:World}{A:Around}{E:Value->Shared->Prop}{s:Shared}
theorem nextK_item{b:Bool}{it l:Addr}{i:Nat}{xs:Array Value}{x:Value}{Q:Value->Shared->Prop}(hit:ItK b s.heap it l i)(hl:SeqK b s.heap l xs)(hx:xs[i]?=some x)
  (q:∀ g,ItK b g it l (i+1)->Heap.SameBut it s.heap g->Q x { s with heap:=g }):wpAny (model prog w) A (Builtin.SmallTypes.nextOf (.ref it)) Q E s:=by
 cases b
 ·exact wpAny_nextOf_list_item hit hl hx q
 ·have ty:s.TypeIs (.ref it) "tuple_iterator":=by
   obtain⟨o,e,c,_⟩:=(show s.heap.IsTupleIter it l i from hit)
   exact⟨o,e,c⟩
  obtain⟨o,e,c,d⟩:=(show s.heap.IsTupleIter it l i from hit)
  obtain⟨o2,e2,_,n2,d2⟩:=(show s.heap.IsTuple l xs from hl)
  unfold Builtin.SmallTypes.nextOf;refine wpAny_bind (wpAny_callSpecial?_slot (name:=Str.ofString "__next__") ty F.slot_tuple_iterator_next (wpAny_call_entry F.slot_tuple_iterator_next ty F.entry_tuple_iterator_next ?_ (F.args_tuple_iterator_next_1 _)))
  show wpAny _ _ (field (.ref it) 0 >>= _) _ _ s;refine wpAny_bind (wpAny_field e d (x:=.ref l) rfl ?_)
  show wpAny _ _ (if(Value.ref l == Value.none)=true then _ else _) _ _ s;rw[if_neg (show ¬((Value.ref l == Value.none)=true)from Bool.false_ne_true)]
  show wpAny _ _ (field (.ref it) 1 >>= _) _ _ s;refine wpAny_bind (wpAny_field e d (x:=.int i 0) rfl ?_)
  show wpAny _ _ (seqItems? (.ref l) >>= _) _ _ s;refine wpAny_bind (wpAny_seqItems e2 d2 ?_)
  simp only[Int.toNat_natCast,hx]
  refine wpAny_bind (wpAny_setField e d (by simp) (wpAny_pure ⟨x,rfl,wpAny_pure (q _ ?_ (Heap.SameBut.update ..))⟩))
  exact(show Heap.IsTupleIter _ it l (i+1)from⟨_,Heap.get?_update_self _ e (Obj.isFreed_of_fields (Obj.data_mapFields d _)),(Obj.cls_mapFields ..).trans c,by rw[Obj.data_mapFields d];simp[rawInt]⟩)
theorem nextK_end{b:Bool}{it l:Addr}{i:Nat}{xs:Array Value}{Q:Value->Shared->Prop}(hh:A.handled=none)(hit:ItK b s.heap it l i)(hl:SeqK b s.heap l xs)(hx:xs[i]?=none)
  (q:∀ g e,Heap.ExtBut it s.heap g->(∃ o,g.get? e=some o/\o.cls = .type "StopIteration")->E (.ref e) { s with heap:=g }):wpAny (model prog w) A (Builtin.SmallTypes.nextOf (.ref it)) Q E s:=by
 cases b
 ·exact wpAny_nextOf_list_end hh hit hl hx q
 ·have ty:s.TypeIs (.ref it) "tuple_iterator":=by
   obtain⟨o,e,c,_⟩:=(show s.heap.IsTupleIter it l i from hit)
   exact⟨o,e,c⟩
  obtain⟨o,e,c,d⟩:=(show s.heap.IsTupleIter it l i from hit)
  obtain⟨o2,e2,_,n2,d2⟩:=(show s.heap.IsTuple l xs from hl)
  unfold Builtin.SmallTypes.nextOf;refine wpAny_bind (wpAny_callSpecial?_slot (name:=Str.ofString "__next__") ty F.slot_tuple_iterator_next (wpAny_call_entry F.slot_tuple_iterator_next ty F.entry_tuple_iterator_next ?_ (F.args_tuple_iterator_next_1 _)))
  show wpAny _ _ (field (.ref it) 0 >>= _) _ _ s;refine wpAny_bind (wpAny_field e d (x:=.ref l) rfl ?_)
  show wpAny _ _ (if(Value.ref l == Value.none)=true then _ else _) _ _ s;rw[if_neg (show ¬((Value.ref l == Value.none)=true)from Bool.false_ne_true)]
  show wpAny _ _ (field (.ref it) 1 >>= _) _ _ s;refine wpAny_bind (wpAny_field e d (x:=.int i 0) rfl ?_)
  show wpAny _ _ (seqItems? (.ref l) >>= _) _ _ s;refine wpAny_bind (wpAny_seqItems e2 d2 ?_)
  simp only[Int.toNat_natCast,hx];refine wpAny_bind (wpAny_rule (wpAny_bind (wpAny_setField e d (by simp) ?_)))
  show wpAny _ _ (newExc (.type "StopIteration") [] >>= _) _ _ _;refine wpAny_bind ?_
  simp only[newExc,newTuple];refine wpAny_bind (wpAny_newObj_type ?_ (by size_fits))
  refine wpAny_bind (m:=firstArgMember _ _) (wpAny_of_eq (a:=Value.none) (by first | rfl |(simp only[firstArgMember];rfl)) (wpAny_newObj_type ?_ (by size_fits)))
  simp only[raiseNew];refine wpAny_bind (wpAny_handled ?_)
  rw[show A.in1.handled=none from hh];refine wpAny_bind (wpAny_pure (wpAny_throw ?_))
  exact q _ _ (((Heap.SameBut.update ..).extBut.push _).push _) ⟨_,Heap.get?_push_size _ rfl,rfl⟩
structure ZA(z ti to i1 i2:Addr):Prop where
 a1:ti≠z
 a2:to≠z
 a3:i1≠z
 a4:i2≠z
 a5:ti≠to
 a6:ti≠i1
 a7:ti≠i2
 a8:to≠i1
 a9:to≠i2
 a10:i1≠i2
noncomputable def Off(z to i1 i2 l:Addr):Prop:=l≠z/\l≠to/\l≠i1/\l≠i2
theorem zipK_item{b1 b2:Bool}{z ti to i1 i2 l1 l2:Addr}{k:Nat}{xs ys:Array Value}{x y a b:Value}{Q:Value->Shared->Prop}(D:ZA z ti to i1 i2)(o1:Off z to i1 i2 l1)(o2:Off z to i1 i2 l2)
  (hz:IsZip s.heap z ti to .none) (hTI:IsPair s.heap ti (.ref i1) (.ref i2)) (hTO:IsPair s.heap to a b) (h1:ItK b1 s.heap i1 l1 k) (h2:ItK b2 s.heap i2 l2 k) (hl1:SeqK b1 s.heap l1 xs) (hl2:SeqK b2 s.heap l2 ys) (hx:xs[k]?=some x) (hy:ys[k]?=some y)
  (q:∀ g,IsZip g z ti to (rawInt s.heap.objs.size)->IsPair g to x y->ItK b1 g i1 l1 (k+1)->ItK b2 g i2 l2 (k+1)->IsPair g s.heap.objs.size x y->(∀ c o,c≠z->c≠to->c≠i1->c≠i2->s.heap.get? c=some o->g.get? c=some o)->Q (.ref s.heap.objs.size) { s with heap:=g }) :
  wpAny (model prog w) A (Builtin.«zip.__next__» ⟨[.ref z],[]⟩) (fun fin s'=>∃ v,fin = .done (.ret v)/\Q v s') E s:=by
 show wpAny _ _ (field (.ref z) 2 >>= _) _ _ _;refine wpAny_bind (wpAny_field hz rfl (x:=.bool false) rfl ?_)
 show wpAny _ _ (field (.ref z) 3 >>= _) _ _ _;refine wpAny_bind (wpAny_field hz rfl (x:=.ref ti) rfl (wpAny_bind (wpAny_seqItems hTI rfl ?_)))
 show wpAny _ _ (Builtin.SmallTypes.ownedTupleIsFree (.ref z) >>= _) _ _ _;refine wpAny_bind ?_
 unfold Builtin.SmallTypes.ownedTupleIsFree;refine wpAny_bind (wpAny_field hz rfl (x:=.none) rfl (wpAny_pure ?_))
 simp only[if_true];refine wpAny_bind (wpAny_rule (wpAny_bind (wpAny_field hz rfl (x:=.ref to) rfl (wpAny_bind (wpAny_setField_rec hz (by simp) fun g1 z1 e1=>?_)))))
 replace z1:IsZip g1 z ti to .ellipsis:=z1
 refine wpAny_bind ?_;simp only[List.zipIdx_cons,List.zipIdx_nil,List.forIn_cons,List.forIn_nil]
 refine wpAny_bind (wpAny_bind (wpAny_onRaise ?_));show wpAny _ _ (Builtin.SmallTypes.nextOf (.ref i1) >>= _) _ _ _
 refine wpAny_bind (nextK_item (h1.to fun o e=>e1.extBut _ _ D.a3 e) (hl1.to fun o e=>e1.extBut _ _ o1.1 e) hx fun g2 n2 e2=>wpAny_pure ?_)
 have t2:IsPair g2 to a b:=e2.extBut _ _ D.a8 (e1.extBut _ _ D.a2 hTO)
 refine wpAny_bind (wpAny_seqItems t2 rfl (wpAny_bind (wpAny_updateSeq_pair t2 fun g3 t3 e3=>?_)))
 replace t3:IsPair g3 to x b:=t3
 refine wpAny_bind (wpAny_letGo (wpAny_pure (wpAny_bind (wpAny_bind (wpAny_onRaise ?_)))));show wpAny _ _ (Builtin.SmallTypes.nextOf (.ref i2) >>= _) _ _ _
 refine wpAny_bind (nextK_item (((h2.to fun o e=>e1.extBut _ _ D.a4 e).to fun o e=>e2.extBut _ _ (Ne.symm D.a10) e).to fun o e=>e3.extBut _ _ (Ne.symm D.a9) e) (((hl2.to fun o e=>e1.extBut _ _ o2.1 e).to fun o e=>e2.extBut _ _ o2.2.2.1 e).to fun o e=>e3.extBut _ _ o2.2.1 e) hy fun g4 n4 e4=>wpAny_pure ?_)
 have t4:IsPair g4 to x b:=e4.extBut _ _ D.a9 t3
 refine wpAny_bind (wpAny_seqItems t4 rfl (wpAny_bind (wpAny_updateSeq_pair t4 fun g5 t5 e5=>?_)))
 replace t5:IsPair g5 to x y:=t5
 refine wpAny_bind (wpAny_letGo (wpAny_pure (wpAny_pure (wpAny_bind (wpAny_seqItems t5 rfl (wpAny_bind (wpAny_newTuple ?_)))))))
 have sz:g5.objs.size=s.heap.objs.size:=by rw[e5.1,e4.1,e3.1,e2.1,e1.1]
 have z5:IsZip g5 z ti to .ellipsis:=e5.extBut _ _ (Ne.symm D.a2) (e4.extBut _ _ (Ne.symm D.a4) (e3.extBut _ _ (Ne.symm D.a2) (e2.extBut _ _ (Ne.symm D.a3) z1)))
 have k5:∀ c o,c≠z->c≠to->c≠i1->c≠i2->s.heap.get? c=some o->g5.get? c=some o:=fun c o c1 c2 c3 c4 e=>e5.extBut _ _ c2 (e4.extBut _ _ c4 (e3.extBut _ _ c2 (e2.extBut _ _ c3 (e1.extBut _ _ c1 e))))
 have n15:ItK b1 g5 i1 l1 (k+1):=((n2.to fun o e=>e3.extBut _ _ (Ne.symm D.a8) e).to fun o e=>e4.extBut _ _ D.a10 e).to fun o e=>e5.extBut _ _ (Ne.symm D.a8) e
 have n25:ItK b2 g5 i2 l2 (k+1):=n4.to fun o e=>e5.extBut _ _ (Ne.symm D.a9) e
 show wpAny _ _ (Builtin.SmallTypes.ownedTupleHandOut (.ref z) (.ref g5.objs.size) >>= _) _ _ _;refine wpAny_bind ?_
 unfold Builtin.SmallTypes.ownedTupleHandOut
 have z6:IsZip (g5.push { cls:=.type "tuple",data:=.seq #[x,y] }) z ti to .ellipsis:=Heap.get?_push_of_some _ z5
 refine wpAny_bind (wpAny_setField_rec z6 (by simp) fun g7 z7 e7=>?_)
 replace z7:IsZip g7 z ti to (rawInt g5.objs.size):=z7
 refine wpAny_setField_rec z7 (by simp) fun g8 z8 e8=>?_
 replace z8:IsZip g8 z ti to (rawInt g5.objs.size):=z8
 have up:∀ c o,c≠z->g5.get? c=some o->g8.get? c=some o:=fun c o c1 e=>e8.extBut _ _ c1 (e7.extBut _ _ c1 (Heap.get?_push_of_some _ e))
 have zlt:z<g5.objs.size:=Heap.lt_size z5
 have p8:IsPair g8 g5.objs.size x y:=e8.extBut _ _ (Nat.ne_of_gt zlt) (e7.extBut _ _ (Nat.ne_of_gt zlt) (Heap.get?_push_size _ rfl))
 rw[sz]at z8 p8
 refine wpAny_pure ⟨_,rfl,?_⟩
 show Q (.ref g5.objs.size) _;rw[sz]
 exact q g8 z8 (up _ _ D.a2 t5) (n15.to fun o e=>up _ o D.a3 e) (n25.to fun o e=>up _ o D.a4 e) p8 fun c o c1 c2 c3 c4 e=>up c o c1 (k5 c o c1 c2 c3 c4 e)
theorem zipK_end{b1 b2:Bool}{z ti to i1 i2 l1 l2:Addr}{k:Nat}{xs ys:Array Value}{a b:Value}{Q:Fin->Shared->Prop}(hh:A.handled=none)(D:ZA z ti to i1 i2)(o1:Off z to i1 i2 l1)(o2:Off z to i1 i2 l2)
  (hz:IsZip s.heap z ti to .none) (hTI:IsPair s.heap ti (.ref i1) (.ref i2)) (hTO:IsPair s.heap to a b) (h1:ItK b1 s.heap i1 l1 k) (h2:ItK b2 s.heap i2 l2 k) (hl1:SeqK b1 s.heap l1 xs) (hl2:SeqK b2 s.heap l2 ys) (he:xs[k]?=none\/ys[k]?=none)
  (q:∀ g e,(∀ c o,c≠z->c≠to->c≠i1->c≠i2->s.heap.get? c=some o->g.get? c=some o)->(∃ o,g.get? e=some o/\o.cls = .type "StopIteration")->E (.ref e) { s with heap:=g }) :
  wpAny (model prog w) A (Builtin.«zip.__next__» ⟨[.ref z],[]⟩) Q E s:=by
 show wpAny _ _ (field (.ref z) 2 >>= _) _ _ _;refine wpAny_bind (wpAny_field hz rfl (x:=.bool false) rfl ?_)
 show wpAny _ _ (field (.ref z) 3 >>= _) _ _ _;refine wpAny_bind (wpAny_field hz rfl (x:=.ref ti) rfl (wpAny_bind (wpAny_seqItems hTI rfl ?_)))
 show wpAny _ _ (Builtin.SmallTypes.ownedTupleIsFree (.ref z) >>= _) _ _ _;refine wpAny_bind ?_
 unfold Builtin.SmallTypes.ownedTupleIsFree;refine wpAny_bind (wpAny_field hz rfl (x:=.none) rfl (wpAny_pure ?_))
 simp only[if_true];refine wpAny_bind (wpAny_rule (wpAny_bind (wpAny_field hz rfl (x:=.ref to) rfl (wpAny_bind (wpAny_setField_rec hz (by simp) fun g1 z1 e1=>?_)))))
 replace z1:IsZip g1 z ti to .ellipsis:=z1
 refine wpAny_bind ?_;simp only[List.zipIdx_cons,List.zipIdx_nil,List.forIn_cons,List.forIn_nil]
 refine wpAny_bind (wpAny_bind (wpAny_onRaise ?_));show wpAny _ _ (Builtin.SmallTypes.nextOf (.ref i1) >>= _) _ _ _
 cases hx:xs[k]? with
 |none =>
  refine wpAny_bind (nextK_end hh (h1.to fun o e=>e1.extBut _ _ D.a3 e) (hl1.to fun o e=>e1.extBut _ _ o1.1 e) hx fun g2 e e2 he=>?_)
  obtain⟨oe,hoe,hce⟩:=he
  have z2:IsZip g2 z ti to .ellipsis:=e2 _ _ (Ne.symm D.a3) z1
  have ez:e≠z:=fun x=>by subst x;rw[z2]at hoe;cases hoe;simp at hce
  refine wpAny_setField_rec z2 (by simp) fun g3 _ e3=>q g3 e (fun c o c1 _ c3 _ x=>e3.extBut _ _ c1 (e2 _ _ c3 (e1.extBut _ _ c1 x))) ⟨oe,e3.extBut _ _ ez hoe,hce⟩
 |some x =>
  have hy:ys[k]?=none:=by
   rcases he with h | h
   ·rw[hx]at h;cases h
   ·exact h
  refine wpAny_bind (nextK_item (h1.to fun o e=>e1.extBut _ _ D.a3 e) (hl1.to fun o e=>e1.extBut _ _ o1.1 e) hx fun g2 n2 e2=>wpAny_pure ?_)
  have t2:IsPair g2 to a b:=e2.extBut _ _ D.a8 (e1.extBut _ _ D.a2 hTO)
  refine wpAny_bind (wpAny_seqItems t2 rfl (wpAny_bind (wpAny_updateSeq_pair t2 fun g3 t3 e3=>wpAny_bind (wpAny_letGo (wpAny_pure (wpAny_bind (wpAny_bind (wpAny_onRaise ?_))))))))
  show wpAny _ _ (Builtin.SmallTypes.nextOf (.ref i2) >>= _) _ _ _
  refine wpAny_bind (nextK_end hh (((h2.to fun o e=>e1.extBut _ _ D.a4 e).to fun o e=>e2.extBut _ _ (Ne.symm D.a10) e).to fun o e=>e3.extBut _ _ (Ne.symm D.a9) e) (((hl2.to fun o e=>e1.extBut _ _ o2.1 e).to fun o e=>e2.extBut _ _ o2.2.2.1 e).to fun o e=>e3.extBut _ _ o2.2.1 e) hy fun g4 e e4 he=>?_)
  obtain⟨oe,hoe,hce⟩:=he
  have z4:IsZip g4 z ti to .ellipsis:=e4 _ _ (Ne.symm D.a4) (e3.extBut _ _ (Ne.symm D.a2) (e2.extBut _ _ (Ne.symm D.a3) z1))
  have ez:e≠z:=fun x=>by subst x;rw[z4]at hoe;cases hoe;simp at hce
  refine wpAny_setField_rec z4 (by simp) fun g5 _ e5=>q g5 e (fun c o c1 c2 c3 c4 x=>e5.extBut _ _ c1 (e4 _ _ c4 (e3.extBut _ _ c2 (e2.extBut _ _ c3 (e1.extBut _ _ c1 x))))) ⟨oe,e5.extBut _ _ ez hoe,hce⟩
theorem pyIterK{b:Bool}{l:Addr}{xs:Array Value}{Q:Value->Shared->Prop}(h:SeqK b s.heap l xs)(q:Q (.ref s.heap.objs.size) { s with heap:=s.heap.push (itO b l) }):wpAny (model prog w) A (pyIter (.ref l)) Q E s:=by
 cases b
 ·exact wpAny_pyIter_list h q
 ·exact wpAny_pyIter_tuple h q
theorem ItK.new{b:Bool}{l:Addr}(g:Heap):ItK b (g.push (itO b l)) g.objs.size l 0:=by
 cases b
 ·exact(show Heap.IsListIter _ _ _ _ from⟨_,Heap.get?_push_size _ rfl,rfl,rfl⟩)
 ·exact(show Heap.IsTupleIter _ _ _ _ from⟨_,Heap.get?_push_size _ rfl,rfl,rfl⟩)
noncomputable abbrev zK2(g:Heap)(b1 b2:Bool)(l1 l2:Addr):Heap:=(g.push (itO b1 l1)).push (itO b2 l2)
noncomputable abbrev zK3(g:Heap)(b1 b2:Bool)(l1 l2:Addr):Heap:=(zK2 g b1 b2 l1 l2).push { cls:=.type "tuple",data:=.seq #[.ref g.objs.size,.ref (g.push (itO b1 l1)).objs.size] }
noncomputable abbrev zK4(g:Heap)(b1 b2:Bool)(l1 l2:Addr):Heap:=(zK3 g b1 b2 l1 l2).push { cls:=.type "tuple",data:=.seq #[.none,.none] }
noncomputable abbrev zK5(g:Heap)(b1 b2:Bool)(l1 l2:Addr):Heap:=(zK4 g b1 b2 l1 l2).push { cls:=.type "zip",data:=.fields #[.none,.bool false,.bool false,.ref (zK2 g b1 b2 l1 l2).objs.size,.ref (zK3 g b1 b2 l1 l2).objs.size] }
theorem zipK_new(b1 b2:Bool)(l1 l2:Addr)(xs ys:Array Value):Meets (Builtin.«zip.__new__» ⟨[.type "zip",.ref l1,.ref l2],[]⟩) (fun _ R s=>SeqK b1 s.heap l1 xs/\SeqK b2 s.heap l2 ys/\R (.ok (.ret (.ref (zK4 s.heap b1 b2 l1 l2).objs.size))) { s with heap:=zK5 s.heap b1 b2 l1 l2 }) :=
 .of_wp fun prog w A R s h=>by
  obtain⟨hp,g,d,tk,os⟩:=s
  obtain⟨hl1,hl2,h⟩:=h
  have hsub:=sub_zip
  have hL1:SeqK b1 (Shared.heap ⟨hp,g,d,tk,os⟩) l1 xs:=hl1
  have hL2:SeqK b2 (Shared.heap ⟨hp.push (itO b1 l1),g,d,tk,os⟩) l2 ys:=hl2.to fun o e=>Heap.get?_push_of_some _ e
  wp_walk using pyIterK hL1,pyIterK hL2
  exact⟨_,rfl,h⟩
end
end Srt
namespace L2
open PySem PySem.W PyProof.Rows Srt
noncomputable def SqB(b:Bool)(K:PySem.W.Frag)(H:Hp)(l:Addr)(xs:List V):Prop:=match b with
 |true=>SqT K H l xs
 |false=>SqL K H l xs
section
variable{X:Cx}{pins:List (Addr×Obj)}{σ:St}{H:Hp}{s:Shared}{h':Heap}
theorem Inv.seqB(I:Inv X pins σ H s){b:Bool}{l:Addr}{xs:List V}(h:SqB b X.K H l xs):∃ its:List Value,Vals xs its/\SeqK b s.heap l its.toArray/\xs.length<=sizeLine:=by
 cases b
 ·obtain⟨its,r,p,z⟩:=I.list h
  exact⟨its,r,p.isList,z⟩
 ·obtain⟨its,r,p,z⟩:=I.tuple h
  exact⟨its,r,p,z⟩
theorem Inv.seqB_inj(I:Inv X pins σ H s){b:Bool}{l:Addr}{xs ys:List V}(h:SqB b X.K H l xs)(h':SqB b X.K H l ys):xs=ys:=by
 cases b
 ·exact I.list_inj h h'
 ·exact I.tuple_inj h h'
theorem Inv.offB(I:Inv X pins σ H s){b:Bool}{l c:Addr}{xs:List V}(h:SqB b X.K H l xs)(f:FpOk X pins H c):l≠c:=by
 intro e
 subst e
 obtain⟨f0,_,_,f3,_,_⟩:=f
 have base:∀ o,X.K.lookup l=some o->False:=fun o hk=>by
  have eb:=I.ok.mod.kin l o hk
  rcases f3 with f3 | f3
  ·exact I.ok.noex l o eb f3
  ·exact absurd (Nat.lt_of_lt_of_le (Heap.lt_size eb) (Nat.le_trans I.ok.bsz f3)) (Nat.lt_irrefl _)
 cases b
 ·rcases(show SqL X.K H l xs from h)with(z |⟨o,z⟩) |⟨o,_,_,hk,_⟩
  ·rw[f0]at z;cases z
  ·rw[f0]at z;cases z
  ·exact base o hk
 ·rcases(show SqT X.K H l xs from h)with(z |⟨o,z⟩) |⟨o,_,_,hk,_⟩
  ·rw[f0]at z;cases z
  ·rw[f0]at z;cases z
  ·exact base o hk
theorem Inv.turnedL{t':Nat}{ch:List Addr}(I:Inv X pins σ H s)(hf:∀ b∈ch,FpOk X pins H b)(k:∀ b o,b∉ch->s.heap.get? b=some o->h'.get? b=some o):Inv X pins σ H { s with heap:=h',toks:=t' }:=by
 have nit:∀ b u,H b=some u->b∉ch:=fun b u e z=>by rw[(hf b z).1]at e;cases e
 have loc:X.env.locals∉ch:=fun z=>(hf _ z).2.1 rfl
 refine I.step (g':=s.gens) (d':=s.drawn) (ch:=ch) (fun b hb=>?_) (fun b o _ _ hc e _=>k b o hc e) (fun b o _ _ hc e _=>⟨o.slots,k b o hc e⟩) (fun _ _ _ _ n=>n) (fun b o hc e=>⟨o,k b o hc e⟩) (fun _ _ e=>e) (fun _ _ _ e=>e) (fun b ps e=>⟨#[],by rw[e];simp⟩) (fun m hm=>?_) (fun b u e=>?_) I.bare
 ·obtain⟨_,f1,_,f3,f4,f5⟩:=hf b hb
  exact⟨f3,f1,f4,f5⟩
 ·obtain⟨o,es,ep,ho,r⟩:=hm
  exact⟨o,es,ep,k _ o loc ho,r⟩
 ·refine(I.hok b u e).stay (fun c v hc q=>k c v ?_ q) (fun _ q=>q) fun _ _ q=>q
  rcases hc with z | z
  ·rw[z];exact nit b u e
  ·exact nit c _ z
theorem Inv.turnedN{t':Nat}{ch:List Addr}{a:Addr}{ob:HO}(I:Inv X pins σ H s)(hf:∀ b∈ch,FpOk X pins H b)(k:∀ b o,b∉ch->s.heap.get? b=some o->h'.get? b=some o)(ha:s.heap.objs.size<=a)(new:ObjOk X.prog X.w (upd H a ob) h' a ob) :
  Inv X pins σ (upd H a ob) { s with heap:=h',toks:=t' }:=by
 have hn:H a=none:=I.hok.fresh ha
 have nit:∀ b u,H b=some u->b∉ch:=fun b u e z=>by rw[(hf b z).1]at e;cases e
 have loc:X.env.locals∉ch:=fun z=>(hf _ z).2.1 rfl
 have old:∀ b o,s.heap.get? b=some o->b≠a:=fun b o e=>Nat.ne_of_lt (Nat.lt_of_lt_of_le (Heap.lt_size e) ha)
 refine I.step (g':=s.gens) (d':=s.drawn) (ch:=ch) (fun b hb=>?_) (fun b o _ _ hc e _=>k b o hc e) (fun b o _ _ hc e _=>⟨o.slots,k b o hc e⟩) (fun b o _ e n=>by rw[upd_ne (old b o e)];exact n) (fun b o hc e=>⟨o,k b o hc e⟩)
  (fun b xs e=>by rw[upd_ne (ne_of_none e hn)];exact e) (fun b o u e=>by rw[upd_ne (ne_of_none e hn)];exact e) (fun b ps e=>⟨#[],by rw[upd_ne (ne_of_none e hn),e];simp⟩) (fun m hm=>?_) (fun b u e=>?_) I.bare
 ·obtain⟨_,f1,_,f3,f4,f5⟩:=hf b hb
  exact⟨f3,f1,f4,f5⟩
 ·obtain⟨o,es,ep,ho,r⟩:=hm
  exact⟨o,es,ep,k _ o loc ho,r⟩
 ·by_cases hb:b=a
  ·subst hb
   rw[upd_same]at e
   cases e
   exact new
  ·rw[upd_ne hb]at e
   refine(I.hok b u e).stay (fun c v hc q=>k c v ?_ q) (fun c q=>by rw[upd_ne (ne_of_none q hn)];exact q) fun c xs q=>by rw[upd_ne (ne_of_none q hn)];exact q
   rcases hc with z | z
   ·rw[z];exact nit b u e
   ·exact nit c _ z
end
noncomputable def Itz(K:PySem.W.Frag)(b1 b2:Bool)(l1 l2:Addr):It :=
  ⟨fun i H=>∃ xs ys x y,SqB b1 K H l1 xs/\SqB b2 K H l2 ys/\xs[i]?=some x/\ys[i]?=some y,
   fun i H v H'=>∃ T x y,v = .ref T/\H T=none/\H'=upd H T (.tup [x,y])/\(∀ xs,SqB b1 K H l1 xs->xs[i]?=some x)/\∀ ys,SqB b2 K H l2 ys->ys[i]?=some y,
   fun i H=>∃ xs ys,SqB b1 K H l1 xs/\SqB b2 K H l2 ys/\(xs.length<=i\/ys.length<=i)⟩
theorem turn_zip{P:Program}{w:World}{K:PySem.W.Frag}{es:List Expr}{kk:Nat}{pos:Pos}(b1 b2:Bool)(z ti to i1 i2 l1 l2:Addr)(D:ZA z ti to i1 i2):Turn P w K (.Tuple es kk pos) (Itz K b1 b2 l1 l2) [z,ti,to,i1,i2] z
  (fun i h=>IsZip h z ti to .none/\IsPair h ti (.ref i1) (.ref i2)/\(∃ a b,IsPair h to a b)/\ItK b1 h i1 l1 i/\ItK b2 h i2 l2 i)where
 mem:=by simp
 obj:=fun i h st b hb=>by
  obtain⟨hz,hti,⟨a,c,hto⟩,h1,h2⟩:=st
  simp only[List.mem_cons,List.not_mem_nil,or_false]at hb
  rcases hb with e | e | e | e | e
  ·rw[e];exact⟨_,hz,fun v z=>by cases z⟩
  ·rw[e];exact⟨_,hti,fun v z=>by cases z⟩
  ·rw[e];exact⟨_,hto,fun v z=>by cases z⟩
  ·rw[e];exact h1.lt
  ·rw[e];exact h2.lt
 keep:=fun i h h' st k=>by
  obtain⟨hz,hti,⟨a,c,hto⟩,h1,h2⟩:=st
  exact⟨k z (by simp) _ hz,k ti (by simp) _ hti,⟨a,c,k to (by simp) _ hto⟩,h1.to fun o e=>k i1 (by simp) o e,h2.to fun o e=>k i2 (by simp) o e⟩
 item:=by
  intro X hP hw hK hc i pins s σ H E I hf st hg
  subst hP hw hK
  obtain⟨hz,hti,⟨a,c,hto⟩,h1,h2⟩:=st
  obtain⟨xs,ys,x,y,q1,q2,hx,hy⟩:=hg
  obtain⟨us,r1,p1,_⟩:=I.seqB q1
  obtain⟨ws,r2,p2,_⟩:=I.seqB q2
  obtain⟨u,hu,ru⟩:=r1.get hx
  obtain⟨v,hv,rv⟩:=r2.get hy
  have off1:Off z to i1 i2 l1:=⟨I.offB q1 (hf z (by simp)),I.offB q1 (hf to (by simp)),I.offB q1 (hf i1 (by simp)),I.offB q1 (hf i2 (by simp))⟩
  have off2:Off z to i1 i2 l2:=⟨I.offB q2 (hf z (by simp)),I.offB q2 (hf to (by simp)),I.offB q2 (hf i1 (by simp)),I.offB q2 (hf i2 (by simp))⟩
  have hT:s.TypeIs (.ref z) "zip":=⟨_,hz,rfl⟩
  have hn:H s.heap.objs.size=none:=I.hok.fresh (Nat.le_refl _)
  unfold pyNext
  refine wpAny_bind (wpAny_attempt (wpAny_callSpecial?_slot (name:=Str.ofString "__next__") hT F.slot_zip_next (wpAny_call_entry F.slot_zip_next hT F.entry_zip_next
   (zipK_item D off1 off2 hz hti hto h1 h2 p1 p2 (x:=u) (y:=v) (by simpa using hu) (by simpa using hv) fun g z1 t1 n1 n2 pp kp=>wpAny_pure ⟨_,rfl,?_⟩) (F.args_zip_next_1 _))))
  refine wpAny_letOwnedTupleGo_zip z1 fun g' z2 sb=>?_
  have zlt:z≠s.heap.objs.size:=Nat.ne_of_lt (Heap.lt_size hz)
  have kp2:∀ b o,b∉[z,ti,to,i1,i2]->s.heap.get? b=some o->g'.get? b=some o:=fun b o nb e=>by
   simp only[List.mem_cons,List.not_mem_nil,or_false,not_or]at nb
   exact sb.extBut _ _ nb.1 (kp b o nb.1 nb.2.2.1 nb.2.2.2.1 nb.2.2.2.2 e)
  have I2:Inv X pins σ (upd H s.heap.objs.size (.tup [x,y])) { s with heap:=g' }:=I.turnedN (t':=s.toks) (ch:=[z,ti,to,i1,i2]) (a:=s.heap.objs.size) (ob:=.tup [x,y]) hf kp2 (Nat.le_refl _) (show ObjOk X.prog X.w _ g' _ (.tup [x,y])from⟨by show 2<=sizeLine;decide,[u,v],.cons ru (.cons rv .nil),⟨_,sb.extBut _ _ (Ne.symm zlt) pp,rfl,0,rfl⟩⟩)
  refine⟨.ref s.heap.objs.size,_,I2,rfl,⟨_,x,y,rfl,hn,rfl,fun xs' h=>by rw[I.seqB_inj h q1];exact hx,fun ys' h=>by rw[I.seqB_inj h q2];exact hy⟩,⟨z2,sb.extBut _ _ D.a1 (kp _ _ D.a1 D.a5 D.a6 D.a7 hti),⟨_,_,sb.extBut _ _ D.a2 t1⟩,n1.to fun o e=>sb.extBut _ _ D.a3 e,n2.to fun o e=>sb.extBut _ _ D.a4 e⟩,fun b hb=>?_⟩
  have bo:∃ o,s.heap.get? b=some o:=by
   simp only[List.mem_cons,List.not_mem_nil,or_false]at hb
   rcases hb with e | e | e | e | e
   ·rw[e];exact⟨_,hz⟩
   ·rw[e];exact⟨_,hti⟩
   ·rw[e];exact⟨_,hto⟩
   ·rw[e];obtain⟨o,e,_⟩:=h1.lt;exact⟨o,e⟩
   ·rw[e];obtain⟨o,e,_⟩:=h2.lt;exact⟨o,e⟩
  obtain⟨o,e⟩:=bo
  rw[upd_ne (Nat.ne_of_lt (Heap.lt_size e))]
  exact(hf b hb).1
 done:=by
  intro X hP hw hK hc i pins s σ H E I hf st hg
  subst hP hw hK
  obtain⟨hz,hti,⟨a,c,hto⟩,h1,h2⟩:=st
  obtain⟨xs,ys,q1,q2,he⟩:=hg
  obtain⟨us,r1,p1,_⟩:=I.seqB q1
  obtain⟨ws,r2,p2,_⟩:=I.seqB q2
  have e1:=r1.length
  have e2:=r2.length
  have off1:Off z to i1 i2 l1:=⟨I.offB q1 (hf z (by simp)),I.offB q1 (hf to (by simp)),I.offB q1 (hf i1 (by simp)),I.offB q1 (hf i2 (by simp))⟩
  have off2:Off z to i1 i2 l2:=⟨I.offB q2 (hf z (by simp)),I.offB q2 (hf to (by simp)),I.offB q2 (hf i1 (by simp)),I.offB q2 (hf i2 (by simp))⟩
  have hT:s.TypeIs (.ref z) "zip":=⟨_,hz,rfl⟩
  unfold pyNext
  refine wpAny_bind (wpAny_attempt (wpAny_callSpecial?_slot (name:=Str.ofString "__next__") hT F.slot_zip_next (wpAny_call_entry F.slot_zip_next hT F.entry_zip_next (zipK_end (I.ok.hd hc) D off1 off2 hz hti hto h1 h2 p1 p2 ?_ fun g e kp he=>?_) (F.args_zip_next_1 _))))
  ·rcases he with h | h
   ·exact .inl (by simp;lia)
   ·exact .inr (by simp;lia)
  ·obtain⟨o,ho,hcl⟩:=he
   refine wpAny_bind (wpAny_isInstance (T:="StopIteration") (b:=true) ⟨o,ho,hcl⟩ isSubtype_stop (wpAny_pure ⟨rfl,?_⟩))
   refine I.turnedL (t':=s.toks) (ch:=[z,ti,to,i1,i2]) hf fun b o nb e=>?_
   simp only[List.mem_cons,List.not_mem_nil,or_false,not_or]at nb
   exact kp b o nb.1 nb.2.2.1 nb.2.2.2.1 nb.2.2.2.2 e
 self:=fun _ _ _ _ _ st h=>wpAny_pyIter_zip st.1 h
theorem za_new(n:Addr):ZA (n+4) (n+2) (n+3) n (n+1)where
 a1:=Nat.ne_of_lt (Nat.add_lt_add_left (by decide) n)
 a2:=Nat.ne_of_lt (Nat.add_lt_add_left (by decide) n)
 a3:=Nat.ne_of_lt (Nat.lt_add_of_pos_right (by decide))
 a4:=Nat.ne_of_lt (Nat.add_lt_add_left (by decide) n)
 a5:=Nat.ne_of_lt (Nat.add_lt_add_left (by decide) n)
 a6:=Nat.ne_of_gt (Nat.lt_add_of_pos_right (by decide))
 a7:=Nat.ne_of_gt (Nat.add_lt_add_left (by decide) n)
 a8:=Nat.ne_of_gt (Nat.lt_add_of_pos_right (by decide))
 a9:=Nat.ne_of_gt (Nat.add_lt_add_left (by decide) n)
 a10:=Nat.ne_of_lt (Nat.lt_add_of_pos_right (by decide))
noncomputable def iZip(b1 b2:Bool)(K:PySem.W.Frag)(ta:TA):TI:=fun σ H R=>ta σ H fun vs H1=>∃ l1 l2,vs=[.ref l1,.ref l2]/\(∃ xs,SqB b1 K H1 l1 xs)/\(∃ ys,SqB b2 K H1 l2 ys)/\R (Itz K b1 b2 l1 l2) H1
theorem pi_zip{X:Cx}{es:List Expr}{kk:Nat}{tpos:Pos}(b1 b2:Bool){a b:Expr}{ta:TA}{p pos:Pos}(hg:Gl X "zip")(hm:X.mg "zip" = none)(ha:PA X [a,b] ta)(hs:starEach [a,b] X.env=[(false,eval a X.env),(false,eval b X.env)]:=by rfl)(hs2:starEach [b] X.env=[(false,eval b X.env)]:=by rfl) :
  PI X (.Tuple es kk tpos) (.Call (.Name "zip" p) [a,b] [] pos) (iZip b1 b2 X.K ta):=by
 intro pins s σ H R I h
 refine Call_ (ld_blt I hg hm boot_zip (PyProof.Rows.callWith_type1 (thn (ha pos pins s σ H _ I h) fun us s1 ⟨vs,H1,I1,r1,q1⟩=>?_) (by rw[hs,hs2]) (by rw[hs2];rfl)))
 obtain⟨l1,l2,e,⟨xs,q1⟩,⟨ys,q2⟩,q⟩:=q1
 subst e
 obtain⟨u,u',rfl,rx,ry⟩:=vals2 r1
 cases rx
 cases ry
 obtain⟨us,_,p1,_⟩:=I1.seqB q1
 obtain⟨ws,_,p2,_⟩:=I1.seqB q2
 have z1:(s1.heap.push (itO b1 l1)).objs.size=s1.heap.objs.size+1:=Heap.size_push ..
 have z2:(zK2 s1.heap b1 b2 l1 l2).objs.size=s1.heap.objs.size+2:=by rw[Heap.size_push,z1]
 have z3:(zK3 s1.heap b1 b2 l1 l2).objs.size=s1.heap.objs.size+3:=by rw[Heap.size_push,z2]
 have z4:(zK4 s1.heap b1 b2 l1 l2).objs.size=s1.heap.objs.size+4:=by rw[Heap.size_push,z3]
 have g5:(zK5 s1.heap b1 b2 l1 l2).get? (zK4 s1.heap b1 b2 l1 l2).objs.size=some _:=Heap.get?_push_size _ rfl
 have g4:(zK5 s1.heap b1 b2 l1 l2).get? (zK3 s1.heap b1 b2 l1 l2).objs.size=some _:=Heap.get?_push_of_some _ (Heap.get?_push_size _ rfl)
 have g3:(zK5 s1.heap b1 b2 l1 l2).get? (zK2 s1.heap b1 b2 l1 l2).objs.size=some _:=Heap.get?_push_of_some _ (Heap.get?_push_of_some _ (Heap.get?_push_size _ rfl))
 have g2:ItK b2 (zK5 s1.heap b1 b2 l1 l2) (s1.heap.push (itO b1 l1)).objs.size l2 0:=(ItK.new (b:=b2) (l:=l2) (s1.heap.push (itO b1 l1))).to fun o e=>Heap.get?_push_of_some _ (Heap.get?_push_of_some _ (Heap.get?_push_of_some _ e))
 have g1:ItK b1 (zK5 s1.heap b1 b2 l1 l2) s1.heap.objs.size l1 0:=(ItK.new (b:=b1) (l:=l1) s1.heap).to fun o e=>Heap.get?_push_of_some _ (Heap.get?_push_of_some _ (Heap.get?_push_of_some _ (Heap.get?_push_of_some _ e)))
 rw[z2,z3,z4]at g5
 rw[z1,z2]at g3
 rw[z3]at g4
 rw[z1]at g2
 refine callType_new F.called_zip (by decide) (F.typeCall_zip_2 _ _) (F.newCall_zip_2 _ _) (fun obj=>F.args_object_init_3 obj _ _) F.entry_zip_new (zipK_new b1 b2 l1 l2 us.toArray ws.toArray) ⟨p1,p2,?_⟩
 show _/\_
 rw[z4]
 have kp:∀ c o,s1.heap.get? c=some o->(zK5 s1.heap b1 b2 l1 l2).get? c=some o:=fun c o x=>Heap.get?_push_of_some _ (Heap.get?_push_of_some _ (Heap.get?_push_of_some _ (Heap.get?_push_of_some _ (Heap.get?_push_of_some _ x))))
 refine⟨⟨_,g5,rfl⟩,wpAny_pyIter_zip g5 ⟨s1.heap.objs.size+4,_,_,_,H1,rfl,I1.kept (t':=s1.toks) kp,turn_zip b1 b2 _ (s1.heap.objs.size+2) (s1.heap.objs.size+3) s1.heap.objs.size (s1.heap.objs.size+1) l1 l2 (za_new _),⟨g5,g3,⟨_,_,g4⟩,g1,g2⟩,fun b hb=>?_,q⟩⟩
 have le:s1.heap.objs.size<=b:=by
  simp only[List.mem_cons,List.not_mem_nil,or_false]at hb
  rcases hb with e | e | e | e | e
  ·rw[e];exact Nat.le_add_right _ 4
  ·rw[e];exact Nat.le_add_right _ 2
  ·rw[e];exact Nat.le_add_right _ 3
  ·rw[e];exact Nat.le_refl _
  ·rw[e];exact Nat.le_add_right _ 1
 exact I1.fpOk le (I1.hok.fresh le)
open PySem PySem.W PyProof.Rows Srt
section
variable{X:Cx}{pins:List (Addr×Obj)}{σ:St}{H:Hp}{s:Shared}{a:Addr}{y v:V}{u r:Value}{A:Around}{E:Value->Shared->Prop}
theorem d_set{H':Hp}{Q:Unit->Shared->Prop}(hu:A.units<cLine)(I:Inv X pins σ H s)(g:DPut H a y v H')(ry:RelV y u)(rv:RelV v r)(h:∀ s',Inv X pins σ H' s'->Q () s'):wpAny (model X.prog X.w) A (dictSet a u r) Q E s:=by
 rcases g with⟨kvs,k,e,ey,l,eH⟩ |⟨kvs,k,b,e,ey,eb,l,eH⟩
 ·subst ey eH
  obtain⟨z,hd,vs,rel,dd⟩:=dk_of I.hok e
  have hz:vs.length<=sizeLine:=by rw[<- rel.length];exact z
  have hl:(putK kvs k v).length<=sizeLine:=by have:=length_putK kvs k v;lia
  refine wpAny_dictSet_pairs (hsz:=hz) (kV_is ry) dd fun h' dd' hs=>h _ ?_
  have he:∃ q,h'.get? a=some q:=let ⟨q,_,_,hq,_⟩:=dd';⟨q,hq⟩
  exact d_write I (by rw[e];exact True.intro) hs he (dk_new hl hd (rel.put k rv) dd')
 ·subst ey eH
  cases(show u=Value.ref b from ry)
  obtain⟨z,hd,xs,rel,dd⟩:=dt_of I.hok e
  have hz:xs.length<=sizeLine:=by rw[<- Paired.length rel];exact z
  have hl:(putK kvs k v).length<=sizeLine:=by have:=length_putK kvs k v;lia
  refine wpAny_dictSet_heap (hsz:=hz) (knd:=tupleKind (mixKind X.prog X.w)) hu (key_of I.hok eb) dd fun h' dd' hs=>h _ ?_
  obtain⟨q,es,ep,hq,h2,h3,h4,_,h5⟩:=dd'
  refine d_write I (by rw[e];exact True.intro) hs ⟨q,hq⟩ ⟨hl,hd,_,(rel.put k eb rv).keeps fun c ys ec=>?_,q,es,ep,hq,h2,h3,h4,h5⟩
  rw[upd_ne (ne_of ec e (fun z=>nomatch z))]
  exact ec
theorem Inv.track{D:Addr}{ob:HO}(I:Inv X pins σ H s)(f:FpOk X pins H D)(new:ObjOk X.prog X.w (upd H D ob) s.heap D ob):Inv X pins σ (upd H D ob) s:=by
 have hn:H D=none:=f.1
 have:=I.step (h':=s.heap) (H':=upd H D ob) (g':=s.gens) (t':=s.toks) (d':=s.drawn) (ch:=[D]) (fun b hb=>?_) (fun b o _ _ _ e _=>e) (fun b o _ _ _ e _=>⟨o.slots,e⟩) (fun b o nb _ n=>by
  rw[upd_ne (fun z=>nb (by simp[z]))];exact n) (fun b o _ e=>⟨o,e⟩) (fun b xs e=>by rw[upd_ne (ne_of_none e hn)];exact e) (fun b o u e=>by rw[upd_ne (ne_of_none e hn)];exact e) (fun b ps e=>⟨#[],by rw[upd_ne (ne_of_none e hn),e];simp⟩) (fun m hm=>hm) (fun b u e=>?_) I.bare
 ·exact this
 ·have e:b=D:=by simpa using hb
  subst e
  obtain⟨_,f1,_,f3,f4,f5⟩:=f
  exact⟨f3,f1,f4,f5⟩
 ·by_cases hb:b=D
  ·subst hb;rw[upd_same]at e;cases e;exact new
  ·rw[upd_ne hb]at e
   exact(I.hok b u e).stay (fun c v _ q=>q) (fun c q=>by rw[upd_ne (ne_of_none q hn)];exact q) fun c xs q=>by rw[upd_ne (ne_of_none q hn)];exact q
end
section
variable{prog:Program}{w:World}{A:Around}{R:Result->Shared->Prop}{s:Shared}
theorem dcompLoop{kx vx target iter:Expr}{ifs:List Expr}{scope:Scope}{pos:Pos}{it:Value}{D:Addr}{env:Env}(I:Nat->Shared->Prop)
  (turn:∀ n s,I n s->wpAny (model prog w) A (pyNext it) (fun r s₁=>match r with
   |none=>R (.ok .next) s₁
   |some v=>wpAny (model prog w) A (letOwnedTupleGo target it v) (fun _ s₁'=>wpAny (model prog w) A (assign target env v) (fun _ s₂ =>
     wpAny (model prog w) A (forIn ifs true fun c r=>if r=true then do let ok <- isTrue c env (eval c env);pure (ForInStep.yield ok)else pure (ForInStep.yield r)) (fun ok s₃ =>
      if ok=true then wpAny (model prog w) A (eval kx env) (fun kv s₄=>wpAny (model prog w) A (eval vx env) (fun vv s₅=>wpAny (model prog w) A (dictSet D kv vv) (fun _ s₆=>∃ m,m<n/\I m s₆) (fun _ _=>False) s₅) (fun _ _=>False) s₄) (fun _ _=>False) s₃
      else ∃ m,m<n/\I m s₃) (fun _ _=>False) s₂) (fun _ _=>False) s₁') (fun _ _=>False) s₁) (fun _ _=>False) s)
  (n:Nat) (h:I n s):codeAny (model prog w) A (.compLoop (.DictComp kx vx [⟨target,iter,ifs,0⟩] scope pos) 0 it (.ref D) env) R s:=by
 refine codeAny_loop rfl I (fun n s hI=>?_) n h
 show wpAny _ A ((compTurn (.DictComp kx vx [⟨target,iter,ifs,0⟩] scope pos) 0 it (.ref D) env).onRaise (fun x=>do noteFrame x env;theTreesLotGoes x)) _ _ s
 refine wpAny_noted ?_
 rw[compTurn_dict];refine wpAny_bind (wpAny_standAt (wpAny_bind (wpAny_mono (turn n s hI) (fun r s₁ h₁=>?_) fun _ _ h'=>h'.elim)))
 cases r with
 |none=>exact wpAny_pure h₁
 |some v =>
  refine wpAny_bind (wpAny_mono h₁ (fun _ s₁' h₁'=>?_) fun _ _ h'=>h'.elim);refine wpAny_bind (wpAny_mono h₁' (fun _ s₂ h₂=>wpAny_bind (wpAny_mono h₂ (fun ok s₃ h₃=>?_) fun _ _ h'=>h'.elim)) fun _ _ h'=>h'.elim)
  cases ok with
  |false=>exact wpAny_pure ⟨rfl,h₃⟩
  |true =>
   exact wpAny_bind (wpAny_bind (wpAny_mono h₃ (fun kv s₄ h₄=>wpAny_bind (wpAny_holding (wpAny_mono h₄ (fun vv s₅ h₅=>wpAny_bind (wpAny_standAt (wpAny_holding (wpAny_mono h₅ (fun _ s₆ h₆=>wpAny_pure ⟨rfl,h₆⟩) fun _ _ h'=>h'.elim)))) fun _ _ h'=>h'.elim))) fun _ _ h'=>h'.elim))
end
noncomputable def dcompTurns(J:It)(cap:List (Option Nat))(σ:St)(H1:Hp)(D:Addr)(Q:VK)(g:TG)(tc:TT)(tk tv:TE):Prop:=∃ (n:Nat) (P:Nat->Hp->Prop),P 0 H1 /\
 ∀ i H,i<=n->P i H->(J.stop i H/\Q (.ref D) H) \/
  (i<n/\J.go i H/\∀ x H',J.yld i H x H'->g x (capt cap σ) H' fun σ2 H2=>Kp (capt cap σ) σ2/\tc σ2 H2 fun b H3=>if b=true then tk σ2 H3 fun k H4=>tv σ2 H4 fun y H5=>∃ H6,DPut H5 D k y H6/\P (i+1) H6 else P (i+1) H3)
noncomputable def dEmp:Bool->HO
 |true=>.dT []
 |false=>.dK []
noncomputable def tDComp(t:Bool)(cap:List (Option Nat))(wi:TI)(g:TG)(tc:TT)(tk tv:TE):TE:=fun σ H Q=>wi σ H fun J H1=>∀ D,H1 D=none->dcompTurns J cap σ (upd H1 D (dEmp t)) D Q g tc tk tv
section
variable{X:Cx}{kx vx tg iter:Expr}{ifs:List Expr}{scope:Scope}{pos:Pos}{N':List Str}{cap:List (Option Nat)}{wi:TI}{g:TG}{tc:TT}{tk tv:TE}
theorem dcomp_run(t:Bool)(hu:X.A.units<cLine)(hc:X.calm=true)(S:CompScope N' cap X.N X.env.scope scope)(hi:PI X tg iter wi)(hg:∀ C s H fp,PG (cxIn X N' scope C s H fp) tg g)
  (ht:∀ C s H fp,PF (cxIn X N' scope C s H fp) ifs tc) (hk:∀ C s H fp,PE (cxIn X N' scope C s H fp) kx tk) (he:∀ C s H fp,PE (cxIn X N' scope C s H fp) vx tv)
  {pins:List (Addr×Obj)}{s:Shared}{σ:St}{H:Hp}{Q:VK} (I:Inv X pins σ H s) (h:tDComp t cap wi g tc tk tv σ H Q) :
  wpAny (model X.prog X.w) X.A (eval iter X.env) (fun x s₁=>wpAny (model X.prog X.w) X.A (pyIter x) (fun it s₂=>wpAny (model X.prog X.w) X.A newDict (fun acc s₃ =>
   wpAny (model X.prog X.w) X.A (newFunctionEnv scope X.env.globals (closCl X.env.cells scope.names []) [] X.env.qual none .none (some X.env)) (fun cenv s₄ =>
    codeAny (model X.prog X.w) X.A (.compStart (.DictComp kx vx [⟨tg,iter,ifs,0⟩] scope pos) 0 it acc { cenv with scope:=relabel scope X.env }) (CompEnd X pins σ Q acc cenv.locals) s₄) X.xe s₃) X.xe s₂) X.xe s₁) X.xe s:=by
 refine thn (hi pins s σ H _ I h) fun v s1 h1=>thn h1 fun itv s2 h2=>?_
 obtain⟨it,fp,tn,J,H2,e,I2,T,st2,f2,turns⟩:=h2
 subst e
 obtain⟨n,P,p0,turn⟩:=turns s2.heap.objs.size (I2.hok.fresh (Nat.le_refl _))
 refine wpAny_newObj_type (wpAny_newFunctionEnv S.nocell (by intro y hy;simp at hy) (fun h₁ hns₁ hsb₁=>?_) S.kind)
 dsimp only at hns₁ hsb₁ ⊢
 generalize hHp:s2.heap.push { cls:=.type "dict",dict:=none,data:=.dict #[] } = Hq at hns₁ hsb₁ ⊢
 have hC:Hq.objs.size=s2.heap.objs.size+1:=by rw[<- hHp,Heap.size_push]
 have hDC:s2.heap.objs.size≠Hq.objs.size:=by rw[hC];exact Nat.ne_of_lt (Nat.lt_succ_self _)
 have hCle:s2.heap.objs.size<=Hq.objs.size:=by rw[hC];exact Nat.le_succ _
 have old:∀ b o,s2.heap.get? b=some o->h₁.get? b=some o:=fun b o e =>
  hsb₁.extBut b o (by rw[hC];exact Nat.ne_of_lt (Nat.lt_succ_of_lt (Heap.lt_size e))) (Heap.get?_push_of_some _ (hHp▸Heap.get?_push_of_some _ e))
 have hacc:h₁.get? s2.heap.objs.size=some { cls:=.type "dict",dict:=none,data:=.dict #[] }:=hsb₁.extBut _ _ hDC (Heap.get?_push_of_some _ (hHp▸Heap.get?_push_size _ rfl))
 have hfo:∀ b∈fp,∃ o,s2.heap.get? b=some o:=fun b hb=>let ⟨o,e,_⟩:=T.obj _ _ st2 b hb;⟨o,e⟩
 have st4:tn 0 h₁:=T.keep _ _ _ st2 fun b _ o e=>old b o e
 let D:Addr:=s2.heap.objs.size
 let C:Addr:=Hq.objs.size
 let Y:Cx:=cxIn X N' scope C s2 H2 fp
 have hDfp:D∉fp:=fun hb=>by
  obtain⟨o,e⟩:=hfo D hb
  exact Nat.lt_irrefl _ (Heap.lt_size e)
 have stat:∀ {H':Hp},(∀ b∈fp,H' b=none)->∀ b∈fp,FpOk Y pins H' b:=fun {H'} hn b hb=>by
  obtain⟨f0,f1,fx,f3,f4,f5⟩:=f2 b hb
  obtain⟨o,e⟩:=hfo b hb
  refine⟨hn b hb,fun z=>?_,fun z=>?_,.inl hb,fun x c e=>f4 x c (closCl_sound _ _ (S.clos I2) (fun y c e=>by simp at e) x c e),f5⟩
  ·have h1:=Nat.lt_of_lt_of_le (Heap.lt_size e) hCle
   have z:b=Hq.objs.size:=z
   rw[z]at h1
   exact Nat.lt_irrefl _ h1
  ·rcases List.mem_cons.mp (I2.stkSub b z)with e | e
   ·exact f1 e
   ·exact fx e
 have loop:∀ s₃:Shared,s₃ = { s2 with heap:=h₁,toks:=s2.toks+([]:List (Str×Value)).length } ->
   codeAny (model X.prog X.w) X.A (.compLoop (.DictComp kx vx [⟨tg,iter,ifs,0⟩] scope pos) 0 (.ref it) (.ref s2.heap.objs.size) (compEnvC scope (closCl X.env.cells scope.names []) Hq.objs.size X.env))
    (CompEnd X pins σ Q (.ref s2.heap.objs.size) Hq.objs.size) s₃:=by
  rintro s₃ rfl
  have inF:∀ {pl:List (Addr×Obj)}{p:Addr×Obj},p∈pl->p∈Y.pn++(pins++pl):=fun {pl p} hp=>List.mem_append_right _ (List.mem_append_right _ hp)
  refine dcompLoop (fun m s'=>∃ i H',m=n-i/\i<=n/\Inv Y pins (capt cap σ) H' s'/\tn i s'.heap/\(∀ b∈fp,H' b=none)/\P i H') ?_ n ?_
  ·rintro m s3 ⟨i,H3,rfl,hin,I3,st3,fr3,p3⟩
   rcases turn i H3 hin p3 with⟨stop,q⟩ |⟨hlt,go,step⟩
   ·refine thn (T.done Y rfl rfl rfl hc i _ s3 _ H3 (fun _ _=>False) I3 (stat fr3) st3 stop) fun r s4 ⟨hr,I4⟩=>?_
    subst hr
    have IX:Inv X pins σ H3 s4:=I2.call' (ch:=fp) I4.os I4.base I4.hok I4.bare fun b hb=>by
     obtain⟨f0,f1,fx,f3,f4,f5⟩:=f2 b hb
     exact⟨f3,f1,f4,f5⟩
    obtain⟨m',hm',_⟩:=I4.loc
    exact⟨.ref D,_,IX,rfl,q,⟨m',hm'⟩,I2.fpOk hCle I4.free⟩
   ·refine thn (T.item Y rfl rfl rfl hc i _ s3 _ H3 (fun _ _=>False) I3 (stat fr3) st3 go) fun r s4 ⟨u,hr,h4⟩=>?_
    subst hr
    refine thn h4 fun _ s5 ⟨x,H5,I5,r5,y5,st5,fr5⟩=>?_
    have I5':=I5.pinned (stat fr5) (T.obj _ _ st5)
    refine thn (hg C s2 H2 fp _ s5 _ H5 x u _ I5' r5 (step x H5 y5)) fun _ s6 ⟨σ6,H6,I6,kp,q6⟩=>?_
    refine thn (ht C s2 H2 fp _ s6 σ6 H6 _ I6 q6) fun b s7 ⟨H7,I7,q7⟩=>?_
    cases b with
    |false =>
     rw[if_neg Bool.false_ne_true]at q7 ⊢
     refine⟨n-(i+1),Nat.sub_succ_lt_self n i hlt,i+1,H7,rfl,hlt,I7.unpinned.weak kp.length kp.get,?_,fun b hb=>?_,q7⟩
     ·exact T.keep _ _ _ st5 fun b hb o e=>(I7.pin (b,o) (inF (mem_pinsAt hb e))).1
     ·obtain⟨o,e,d⟩:=T.obj _ _ st5 b hb
      exact(I7.pin (b,o) (inF (mem_pinsAt hb e))).2.1
    |true =>
     rw[if_pos rfl]at q7 ⊢
     refine thn (hk C s2 H2 fp _ s7 σ6 H7 _ I7 q7) fun kv s8 ⟨k,H8,I8,r8,q8⟩=>thn (he C s2 H2 fp _ s8 σ6 H8 _ I8 q8) fun yv s9 ⟨y,H9,I9,r9,H10,dp,q9⟩=>?_
     refine d_set (X:=Y) hu I9 dp r8 r9 fun s10 I10=>?_
     refine⟨n-(i+1),Nat.sub_succ_lt_self n i hlt,i+1,H10,rfl,hlt,I10.unpinned.weak kp.length kp.get,?_,fun b hb=>?_,q9⟩
     ·exact T.keep _ _ _ st5 fun b hb o e=>(I10.pin (b,o) (inF (mem_pinsAt hb e))).1
     ·obtain⟨o,e,d⟩:=T.obj _ _ st5 b hb
      exact(I10.pin (b,o) (inF (mem_pinsAt hb e))).2.1
  ·have I4:=cxIn_inv (s4:={ s2 with heap:=h₁,toks:=s2.toks+([]:List (Str×Value)).length }) S I2 hCle f2 hfo rfl rfl old hns₁ hacc (Nat.le_refl _) hDC fun v z=>by cases z
   obtain⟨_,pD1,pD2,pD3,_⟩:=I4.pin (D,{ cls:=.type "dict",dict:=none,data:=.dict #[] }) (List.mem_append_right _ (List.mem_append_right _ (List.mem_singleton.mpr rfl)))
   have I5:Inv Y pins (capt cap σ) H2 { s2 with heap:=h₁,toks:=s2.toks+([]:List (Str×Value)).length }:=I4.pins_of fun p hp=>I4.pin p (List.mem_append_right _ (List.mem_append_left _ hp))
   have fD:FpOk Y pins H2 D:=⟨pD1,pD2,pD3,.inr (Nat.le_refl _),fun x c e z=>by
    obtain⟨v,q⟩:=I2.cell x c (closCl_sound _ _ (S.clos I2) (fun y c e=>by simp at e) x c e)
    have h1:=q.lt
    rw[show c=s2.heap.objs.size from z]at h1
    exact Nat.lt_irrefl _ h1,fun p hp z=>by
    have h1:=Heap.lt_size (I2.pin p hp).1
    rw[show p.1=s2.heap.objs.size from z]at h1
    exact Nat.lt_irrefl _ h1⟩
   have nsys:(D == sysModules)=false:=by
    have:=I2.big
    exact Bool.eq_false_iff.mpr fun z=>by
     have e:D=sysModules:=by simpa using z
     have h1:sysModules<D:=this
     rw[<- e]at h1
     exact Nat.lt_irrefl _ h1
   have new:ObjOk X.prog X.w (upd H2 D (dEmp t)) h₁ D (dEmp t):=by
    cases t
    ·exact⟨Nat.zero_le _,nsys,[],.nil,_,#[],0,hacc,⟨rfl,rfl,rfl⟩,rfl,fun e he=>by simp at he,.nil,List.nodup_nil⟩
    ·exact⟨Nat.zero_le _,nsys,[],.nil,_,#[],0,hacc,⟨rfl,rfl,rfl⟩,rfl,rfl,List.nodup_nil⟩
   refine⟨0,upd H2 D (dEmp t),rfl,Nat.zero_le _,I5.track fD new,st4,fun b hb=>?_,p0⟩
   rw[upd_ne (fun z=>hDfp (by rw[<- z];exact hb))]
   exact(f2 b hb).1
 exact codeAny_compStart_dict (loop _ rfl) (T.self X.A 0 _ _ _ st4 (loop _ rfl))
theorem pe_dcomp(t:Bool)(hu:X.A.units<cLine)(hc:X.calm=true)(S:CompScope N' cap X.N X.env.scope scope)(hi:PI X tg iter wi)(hg:∀ C s H fp,PG (cxIn X N' scope C s H fp) tg g)
  (ht:∀ C s H fp,PF (cxIn X N' scope C s H fp) ifs tc) (hk:∀ C s H fp,PE (cxIn X N' scope C s H fp) kx tk) (he:∀ C s H fp,PE (cxIn X N' scope C s H fp) vx tv)
  (hs:∀ x,foldedSetIterable iter X.env x=pure x:=by intro _;rfl):PE X (.DictComp kx vx [⟨tg,iter,ifs,0⟩] scope pos) (tDComp t cap wi g tc tk tv):=by
 intro pins s σ H Q I h
 rw[arm_eval_DictComp]
 refine wpAny_comprehension_free (use:=none) rfl hs (closureFor_cells (S.clos I)) S.kind S.loc (thn (dcomp_run (pos:=pos) t hu hc S hi hg ht hk he I h) fun x s1 h1=>thn h1 fun it s2 h2=>thn h2 fun acc s3 h3=>thn h3 fun cenv s4 h4=>?_)
 refine codeAny_mono h4 fun r s' hr=>?_
 cases r with
 |error x=>exact hr.elim
 |ok f =>
  obtain⟨v,H',I',rv,q,⟨m,hn⟩,f0,f1,f2,f3,f4,f5⟩:=hr
  refine⟨m,hn,fun h' sb=>⟨v,H',I'.turned (it:=cenv.locals) (t':=s'.toks) (fun b o hb e=>(sb.2 b hb).trans e) f0 f1 f3 f4 f5,rv,q⟩⟩
end
open PySem PySem.W PyProof.Rows Srt
section
variable{X:Cx}
theorem bools_at:∀ {bs:List Bool}{us:List Value},Vals (bs.map V.bl) us->∀ (i:Nat) (v:Value),us[i]?=some v->∃ b,bs[i]?=some b/\v = .bool b
 |[],_,.nil,i,v,h=>by simp at h
 |b :: bs,_,.cons r t,0,v,h=>by
  simp at h
  subst h
  exact⟨b,rfl,r⟩
 |b :: bs,_,.cons r t,i+1,v,h=>by
  obtain⟨c,e,q⟩:=bools_at t i v (by simpa using h)
  exact⟨c,by simpa using e,q⟩
theorem call_any(hc:X.calm=true):CallR X (.builtin "any") (fun xs H Q=>∃ (l:Addr) (bs:List Bool),xs=[V.ref l]/\SqL X.K H l (bs.map V.bl)/\Q (.bl (bs.any id)) H):=by
 intro pins s σ H xs us Q I r h
 obtain⟨l,bs,rfl,hq,q⟩:=h
 obtain⟨u,rfl,rx⟩:=vals1 r
 cases rx
 obtain⟨its,r',pl,hz⟩:=I.list hq
 have len:its.length=bs.length:=by rw[<- r'.length,List.length_map]
 have hl:=pl.isList
 have hlt:l<s.heap.objs.size:=by obtain⟨_,e,_⟩:=hl;exact Heap.lt_size e
 refine call_any_walk (wpAny_pyIter_list hl ⟨s.heap.objs.size,[s.heap.objs.size,l],[s.heap.objs.size],its.toArray.size,_,_,fun i=>(bs[i]?).getD false,rfl,Walks.list (A:=X.A.in1) (show X.A.handled=none from I.ok.hd hc) _ l (Nat.ne_of_lt hlt) its.toArray,⟨⟨_,Heap.get?_push_size _ rfl,rfl,rfl⟩,hl.push _⟩,fun i v s' Q' E' hP hQ=>?_,fun h' tk hk=>?_⟩)
 ·obtain⟨b,e,rfl⟩:=bools_at r' i v (by simpa using hP)
  simp only[e,Option.getD_some]at hQ
  exact wpAny_truthy_bool hQ
 ·have e:((List.range its.toArray.size).any fun i=>(bs[i]?).getD false)=bs.any id:=by rw[List.size_toArray,len];exact LSm.range_any bs
  rw[e]
  exact⟨.bl _,H,I.kept (t':=tk) (LSm.kept_iter hk),rfl,q⟩
variable{a b c d:Expr}{ta tb tc td:TE}{pos:Pos}
theorem eqT{A:Around}{s:Shared}{p q:Addr}{ks ns:List Int}(hu:A.units<cLine)(x:TupI s.heap (.ref p) ks)(y:TupI s.heap (.ref q) ns):SeqAt.EqAt A s (.ref p) (.ref q) (decide (ks=ns)):=by
 by_cases e:p=q
 ·subst e
  rw[x.inj y,decide_eq_true rfl]
  exact SeqAt.EqAt.same _
 ·obtain⟨a,o,its,n,e1,g1,c1,d1,p1⟩:=x
  obtain⟨a',o',its',n',e2,g2,c2,d2,p2⟩:=y
  cases e1
  cases e2
  have l1:ks.length=its.size:=by rw[p1.length];simp
  have l2:ns.length=its'.size:=by rw[p2.length];simp
  have at1:∀ {ks:List Int}{us:List Value} (_:IntsV ks us) (j:Nat) (h:j<us.length) (h2:j<ks.length),∃ t,us[j]=Value.int ks[j] t:=by
   intro ks us hp
   induction hp with
   |nil=>intro j h;simp at h
   |cons r _ ih =>
    intro j h h2
    cases j with
    |zero=>exact r
    |succ j=>exact ih j (by simpa using h) (by simpa using h2)
  refine SeqAt.EqAt.of_refs e ?_
  have key:=SeqAt.RcAt.tuples (A:=A) (s:=s) (e:=fun j=>decide (ks[j]?=ns[j]?)) (show s.heap.IsTuple p its from⟨o,g1,c1,n,d1⟩) (show s.heap.IsTuple q its' from⟨o',g2,c2,n',d2⟩) hu fun j h1 h2=>by
   obtain⟨t,q1⟩:=at1 p1 j (by simpa using h1) (by lia)
   obtain⟨t',q2⟩:=at1 p2 j (by simpa using h2) (by lia)
   have q1':its[j]=Value.int (ks[j]'(by lia)) t:=by rw[<- q1];simp
   have q2':its'[j]=Value.int (ns[j]'(by lia)) t':=by rw[<- q2];simp
   rw[q1',q2']
   have e:decide (ks[j]?=ns[j]?)=(ks[j]'(by lia) == ns[j]'(by lia)):=by
    rw[List.getElem?_eq_getElem (by lia),List.getElem?_eq_getElem (by lia),Bool.beq_eq_decide_eq]
    simp
   rw[e]
   exact SeqAt.EqAt.int_int _ _ _ _
  have fin:((List.range (min its.size its'.size)).all (fun j=>decide (ks[j]?=ns[j]?)) && its.size == its'.size)=decide (ks=ns):=by
   rw[Bool.eq_iff_iff,Bool.and_eq_true,List.all_eq_true,decide_eq_true_eq,beq_iff_eq]
   constructor
   ·rintro⟨h1,h2⟩
    apply List.ext_getElem?
    intro i
    by_cases hi:i<ks.length
    ·exact of_decide_eq_true (h1 i (List.mem_range.mpr (by lia)))
    ·rw[List.getElem?_eq_none (by lia),List.getElem?_eq_none (by lia)]
   ·rintro rfl
    exact⟨fun i _=>decide_eq_true rfl,by lia⟩
  rw[fin]at key
  exact key
end
open PySem PySem.W PyProof.Rows Srt
noncomputable abbrev TupsAt(H:Hp)(as:List Addr)(ks:List (List Int)):Prop:=Paired (fun a k=>H a=some (.tup (List.map V.int k))) as ks
section
variable{X:Cx}
theorem refs_of:∀ {as:List Addr}{us:List Value},Vals (as.map V.ref) us->us=as.map Value.ref
 |[],_,.nil=>rfl
 |a :: as,_,.cons r t=>by rw[show _=Value.ref a from r,refs_of t];rfl
theorem tups_mem{H:Hp}{as:List Addr}{ks:List (List Int)}(h:TupsAt H as ks):∀ a∈as,∃ k:List Int,H a=some (.tup (k.map V.int)):=by
 induction h with
 |nil=>intro a ha;cases ha
 |cons r _ ih =>
  intro a ha
  rcases List.mem_cons.mp ha with e | e
  ·rw[e];exact⟨_,r⟩
  ·exact ih a e
theorem tups_len{H:Hp}{as:List Addr}{ks:List (List Int)}(h:TupsAt H as ks):as.length=ks.length:=Paired.length h
theorem tups_at{H:Hp}:∀ {as:List Addr}{ks:List (List Int)},TupsAt H as ks->∀ (i:Nat) (h1:i<as.length) (h2:i<ks.length),H as[i]=some (.tup (List.map V.int ks[i])):=by
 intro as ks h
 induction h with
 |nil=>intro i h1;exact absurd h1 (Nat.not_lt_zero _)
 |cons h t ih =>
  intro i h1 h2
  cases i with
  |zero=>exact h
  |succ i=>exact ih i (Nat.lt_of_succ_lt_succ h1) (Nat.lt_of_succ_lt_succ h2)
end
open PySem PyProof.Rows
section
variable{K:PySem.W.Frag}{a:Addr}{xs:List V}{g:TG}{tc:TT}{te:TE}{cap:List (Option Nat)}{σ:St}{H1:Hp}{Q:VK}
theorem comp_tup(P:Nat->List V->Hp->Prop)(hz:xs.length<=sizeLine)(p0:P 0 [] H1)(hl:∀ i ys H,i<=xs.length->P i ys H->SqT K H a xs)
  (hs:∀ i x ys H,xs[i]?=some x->P i ys H->g x (capt cap σ) H fun σ2 H2=>Kp (capt cap σ) σ2/\tc σ2 H2 fun b H3=>if b=true then te σ2 H3 fun y H4=>P (i+1) (ys++[y]) H4 else P (i+1) ys H3)
  (hd:∀ ys H,ys.length<=xs.length->P xs.length ys H->∀ D,H D=none->Q (.ref D) (upd H D (.lst ys))):compTurns (Itt K a) cap σ H1 Q g tc te:=by
 refine⟨xs.length,P,hz,p0,fun i ys H yl il p=>?_⟩
 have q:=hl i ys H il p
 by_cases hlt:i<xs.length
 ·refine .inr ⟨hlt,⟨xs,xs[i],q,by simp[hlt]⟩,fun x H' y=>?_⟩
  obtain⟨e,y⟩:=y
  subst e
  exact hs i x ys _ (y xs q) p
 ·have e:i=xs.length:=by lia
  subst e
  exact .inl ⟨⟨xs,q,Nat.le_refl _⟩,hd ys H yl p⟩
theorem comp_list(P:Nat->List V->Hp->Prop)(hz:xs.length<=sizeLine)(p0:P 0 [] H1)(hl:∀ i ys H,i<=xs.length->P i ys H->SqL K H a xs)
  (hs:∀ i x ys H,xs[i]?=some x->P i ys H->g x (capt cap σ) H fun σ2 H2=>Kp (capt cap σ) σ2/\tc σ2 H2 fun b H3=>if b=true then te σ2 H3 fun y H4=>P (i+1) (ys++[y]) H4 else P (i+1) ys H3)
  (hd:∀ ys H,ys.length<=xs.length->P xs.length ys H->∀ D,H D=none->Q (.ref D) (upd H D (.lst ys))):compTurns (Itl K a) cap σ H1 Q g tc te:=by
 refine⟨xs.length,P,hz,p0,fun i ys H yl il p=>?_⟩
 have q:=hl i ys H il p
 by_cases hlt:i<xs.length
 ·refine .inr ⟨hlt,⟨xs,xs[i],q,by simp[hlt]⟩,fun x H' y=>?_⟩
  obtain⟨e,y⟩:=y
  subst e
  exact hs i x ys _ (y xs q) p
 ·have e:i=xs.length:=by lia
  subst e
  exact .inl ⟨⟨xs,q,Nat.le_refl _⟩,hd ys H yl p⟩
theorem comp_range{lo:Int}{n:Nat}(P:Nat->List V->Hp->Prop)(hz:n<=sizeLine)(p0:P 0 [] H1)
  (hs:∀ i ys H,i<n->P i ys H->g (.int (lo+i)) (capt cap σ) H fun σ2 H2=>Kp (capt cap σ) σ2/\tc σ2 H2 fun b H3=>if b=true then te σ2 H3 fun y H4=>P (i+1) (ys++[y]) H4 else P (i+1) ys H3)
  (hd:∀ ys H,ys.length<=n->P n ys H->∀ D,H D=none->Q (.ref D) (upd H D (.lst ys))):compTurns (Itr lo n) cap σ H1 Q g tc te:=by
 refine⟨n,P,hz,p0,fun i ys H yl il p=>?_⟩
 by_cases hlt:i<n
 ·refine .inr ⟨hlt,hlt,fun x H' y=>?_⟩
  obtain⟨e,y⟩:=y
  subst e y
  exact hs i ys _ hlt p
 ·have e:i=n:=by lia
  subst e
  exact .inl ⟨Nat.le_refl _,hd ys H yl p⟩
end
noncomputable def capB(cap:List (Option Nat))(N' N:List Str)(names:List (Str×NameKind)):Bool:=(List.range cap.length).all fun j=>match cap[j]? with
 |some (some i)=>(match N'[j]? with
  |some x=>decide (N[i]?=some x/\names.lookup x=some .free)
  |none=>false)
 | _=>true
theorem capB_ok{cap:List (Option Nat)}{N' N:List Str}{names:List (Str×NameKind)}(h:capB cap N' N names=true):∀ j∈List.range cap.length,match cap[j]? with
  |some (some i)=>match N'[j]? with
   |some x=>N[i]?=some x/\names.lookup x=some .free
   |none=>False
  | _=>True:=by
 intro j hj
 have z:=List.all_eq_true.mp h j hj
 revert z
 cases e1:cap[j]? with
 |none=>intro _;trivial
 |some o =>
  cases o with
  |none=>intro _;trivial
  |some i =>
   cases e2:N'[j]? with
   |none =>
    intro z
    dsimp only at z
    exact absurd z Bool.false_ne_true
   |some x =>
    intro z
    dsimp only at z
    exact of_decide_eq_true z
theorem op_catTK{X:Cx}(K:PySem.W.Frag)(e:X.K=K):OpR X (binaryOp .Add) (rCatT K):=e▸op_catT
theorem ix_listK{X:Cx}(K:PySem.W.Frag)(e:X.K=K):IxR X (rIxL K):=e▸ix_list
theorem pg_tupK{X:Cx}{pos:Pos}(K:PySem.W.Frag)(e:X.K=K){es:List Expr}{k:Nat}{t:TGs}{n:Nat}(hc:X.calm=true)(h:PGs X es t)
  (hn:(assignEach es X.env).length=n) (hst:(assignEach es X.env).findIdx? (·.1)=none):PG X (.Tuple es k pos) (gTup K n t):=e▸pg_tup hc h hn hst
theorem Paired.at{α β:Type}{F:α->β->Prop}:∀ {l₁:List α}{l₂:List β},Paired F l₁ l₂->∀ (i:Nat) (h1:i<l₁.length) (h2:i<l₂.length),F l₁[i] l₂[i]:=by
 intro l ks h
 induction h with
 |nil=>intro i h1;exact absurd h1 (Nat.not_lt_zero _)
 |cons h t ih =>
  intro i h1 h2
  cases i with
  |zero=>exact h
  |succ i=>exact ih i (Nat.lt_of_succ_lt_succ h1) (Nat.lt_of_succ_lt_succ h2)
theorem Same.tupq{K:PySem.W.Frag}{H H':Hp}{a:Addr}{xs:List V}(e:Same H H')(h:SqT K H a xs):SqT K H' a xs:=by
 rcases h with(h |⟨o,h⟩) | h
 ·exact .inl (.inl (e _ _ h))
 ·exact .inl (.inr ⟨o,e _ _ h⟩)
 ·exact .inr h
theorem Same.new{q:Addr}{H:Hp}{o:HO}(h:H q=none):Same H (upd H q o):=fun b u e=>by rw[upd_ne (ne_of_none e h)];exact e
section
variable{K:PySem.W.Frag}{l1 l2:Addr}{xs ys:List V}{b1 b2:Bool}{g:TG}{tc:TT}{te:TE}{cap:List (Option Nat)}{σ:St}{H1:Hp}{Q:VK}
theorem for_zip{tb:TS}{D:Ends}{σ:St}{H:Hp}(Pv:Nat->St->Hp->Prop)(h0:Pv 0 σ H)(hl:∀ i σ H,i<=min xs.length ys.length->Pv i σ H->SqB b1 K H l1 xs/\SqB b2 K H l2 ys)
  (hs:∀ i x y σ H T,xs[i]?=some x->ys[i]?=some y->Pv i σ H->H T=none->g (.ref T) σ (upd H T (.tup [x,y])) fun σ2 H2=>tb { D with nx:=Pv (i+1),ct:=Pv (i+1),bk:=D.nx } σ2 H2) (hd:∀ σ H,Pv (min xs.length ys.length) σ H->D.nx σ H) :
  ∃ W:Nat->Nat->St->Hp->Prop,(∃ m,W 0 m σ H)/\∀ i m σ H,W i m σ H ->
   ((Itz K b1 b2 l1 l2).stop i H/\D.nx σ H)\/((Itz K b1 b2 l1 l2).go i H/\∃ N:St->Hp->Prop,(∀ σ' H',N σ' H'->∃ m',m'<m/\W (i+1) m' σ' H')/\∀ x H',(Itz K b1 b2 l1 l2).yld i H x H'->g x σ H' fun σ2 H2=>tb { D with nx:=N,ct:=N,bk:=D.nx } σ2 H2):=by
 refine⟨fun i m σ H=>m=min xs.length ys.length-i/\i<=min xs.length ys.length/\Pv i σ H,⟨min xs.length ys.length,by simp,Nat.zero_le _,h0⟩,?_⟩
 rintro i m σ H ⟨rfl,hi,p⟩
 obtain⟨q1,q2⟩:=hl i σ H hi p
 by_cases hlt:i<min xs.length ys.length
 ·have h1:i<xs.length:=by lia
  have h2:i<ys.length:=by omega
  refine .inr ⟨⟨xs,ys,xs[i],ys[i],q1,q2,by simp[h1],by simp[h2]⟩,Pv (i+1),fun σ' H' p'=>⟨min xs.length ys.length-(i+1),by omega,rfl,hlt,p'⟩,fun v H' y=>?_⟩
  obtain⟨T,x,y,rfl,hT,rfl,f1,f2⟩:=y
  exact hs i x y σ _ T (f1 xs q1) (f2 ys q2) p hT
 ·have e:i=min xs.length ys.length:=by lia
  subst e
  exact .inl ⟨⟨xs,ys,q1,q2,by lia⟩,hd σ H p⟩
end
end L2
namespace K19
open PySem L2 PyProof.Rows
noncomputable def top(i:Nat):Stmt:=PySem.Challenge.pw_partedweb_k19_single_cuts_beside_the_lea.main.body.getD i (.Pass ⟨0,0,0,0⟩)
noncomputable abbrev sFlow:Stmt:=top 1
noncomputable abbrev sGivenAt:Stmt:=top 2
noncomputable abbrev sValueOf:Stmt:=top 3
noncomputable abbrev sArcsOf:Stmt:=top 4
noncomputable abbrev sGreatestAmounts:Stmt:=top 5
noncomputable abbrev sSend:Stmt:=top 6
noncomputable abbrev sTrailsFrom:Stmt:=top 7
noncomputable abbrev sWayTo:Stmt:=top 8
noncomputable abbrev sPush:Stmt:=top 9
noncomputable abbrev sTieWeights:Stmt:=top 11
noncomputable abbrev sWeightOf:Stmt:=top 12
noncomputable abbrev sWithout:Stmt:=top 13
noncomputable abbrev sBesideEach:Stmt:=top 14
noncomputable abbrev sHeadsOf:Stmt:=top 15
noncomputable abbrev sSpread:Stmt:=top 16
noncomputable abbrev sIsParting:Stmt:=top 18
noncomputable abbrev sPruned:Stmt:=top 19
noncomputable abbrev sSingles:Stmt:=top 21
noncomputable abbrev sBySingles:Stmt:=top 22
noncomputable abbrev sPartingBy:Stmt:=top 23
noncomputable abbrev sSingleEnds:Stmt:=top 24
noncomputable abbrev sRimOf:Stmt:=top 25
noncomputable abbrev sCell:Stmt:=top 27
noncomputable abbrev sBox:Stmt:=top 28
noncomputable abbrev sTake:Stmt:=top 29
noncomputable abbrev sWeight:Stmt:=top 31
noncomputable abbrev sWeb:Stmt:=top 32
noncomputable abbrev sPosts:Stmt:=top 33
noncomputable abbrev sLeast:Stmt:=top 34
noncomputable abbrev sWheel:Stmt:=top 35
noncomputable abbrev sRight:Stmt:=top 36
noncomputable abbrev sLaw:Stmt:=top 37
noncomputable def Kept(p:Addr)(H H':Hp):Prop:=∀ b o,b≠p->H b=some o->H' b=some o
theorem Kept.refl{p:Addr}{H:Hp}:Kept p H H:=fun _ _ _ e=>e
theorem Kept.trans{p:Addr}{H H' H'':Hp}(a:Kept p H H')(b:Kept p H' H''):Kept p H H'':=fun c o n e=>b c o n (a c o n e)
theorem Kept.new{p q:Addr}{H:Hp}{o:HO}(h:H q=none):Kept p H (upd H q o):=fun b u _ e=>by rw[upd_ne (ne_of_none e h)];exact e
theorem Kept.at{p:Addr}{H:Hp}{o:HO}:Kept p H (upd H p o):=fun b u n e=>by rw[upd_ne n];exact e
noncomputable def BoxAt(H:Hp)(p:Addr)(N:Nat):Prop:=∃ a b c:Int,H p=some (.lst [.int a,.int b,.int c])/\0<=a/\0<=c/\c<=(N:Int)
theorem BoxAt.mono{H:Hp}{p:Addr}{N M:Nat}(x:BoxAt H p N)(h:N<=M):BoxAt H p M:=by
 obtain⟨a,b,c,e,h1,h2,h3⟩:=x
 exact⟨a,b,c,e,h1,h2,by lia⟩
theorem BoxAt.new{H:Hp}{p q:Addr}{N:Nat}{o:HO}(x:BoxAt H p N)(h:H q=none):BoxAt (upd H q o) p N:=by
 obtain⟨a,b,c,e,r⟩:=x
 exact⟨a,b,c,by rw[upd_ne (ne_of_none e h)];exact e,r⟩
theorem b01(b:Bool):-(2 ^ 64) <(if b=true then 1 else 0:Int)/\(if b=true then 1 else 0:Int)<2 ^ 64:=by cases b <;> decide
theorem b0(b:Bool):(0:Int)<=(if b=true then 1 else 0:Int):=by cases b <;> decide
inductive spCellI(K:PySem.W.Frag)(vs:List V)(H:Hp)(Q:VK):Prop where
 |mk (a:Addr) (ns:List Int) (k:Nat) (h1:vs=[.ref a,.int k]) (h2:SqL K H a (ns.map V.int)) (h3:∀ z,Q (.int z) H)
noncomputable def spCell(K:PySem.W.Frag):Sp:=fun vs H Q _=>spCellI K vs H Q
inductive spBoxI(K:PySem.W.Frag)(vs:List V)(H:Hp)(Q:VK):Prop where
 |mk (a:Addr) (ns:List Int) (k:Nat) (h1:vs=[.ref a,.int k]) (h2:SqL K H a (ns.map V.int)) (h3:∀ p H',H p=none->BoxAt H' p 0->Kept p H H'->Q (.ref p) H')
noncomputable def spBox(K:PySem.W.Frag):Sp:=fun vs H Q _=>spBoxI K vs H Q
inductive spTakeI(vs:List V)(H:Hp)(Q:VK):Prop where
 |mk (p:Addr) (m:Int) (N:Nat) (h1:vs=[.ref p,.int m]) (h2:BoxAt H p N) (h3:N<2 ^ 40) (h4:0<m) (h5:m<1073741824) (h6:∀ z H',0<=z->z<m->BoxAt H' p (N+1)->Kept p H H'->Q (.int z) H')
noncomputable def spTake:Sp:=fun vs H Q _=>spTakeI vs H Q
inductive spWeightI(vs:List V)(H:Hp)(Q:VK):Prop where
 |mk (p:Addr) (h:Nat) (N:Nat) (h1:vs=[.ref p,.int h]) (h2:h<4) (h3:BoxAt H p N) (h4:N+2<2 ^ 40) (h5:∀ z H',1<=z->BoxAt H' p (N+2)->Kept p H H'->Q (.int z) H')
noncomputable def spWeight:Sp:=fun vs H Q _=>spWeightI vs H Q
structure Txt(mg:Str->Option Value):Prop where
 abs:mg "abs" = none
 int:mg "int" = none
 len:mg "len" = none
 range:mg "range" = none
 min:mg "min" = none
 max:mg "max" = none
 tuple:mg "tuple" = none
 sorted:mg "sorted" = none
 isinst:mg "isinstance" = none
 list:mg "list" = none
 str:mg "str" = none
 bool:mg "bool" = none
 sum:mg "sum" = none
section
variable{P:Program}{w:World}{K:PySem.W.Frag}{mg:Str->Option Value}{base:Heap}
theorem scCell:FnScope ["_law_script","_law_k"] ["_law_script","_law_k"] (defScope sCell):=⟨rfl,rfl,rfl,by decide +kernel,rfl,by decide +kernel,by decide +kernel⟩
theorem ok_cell{f:Addr}{fd:FuncData}(F:Fun K "_law_cell_at" "_law_cell_at" sCell f fd)(T:Txt mg):FnOk P w K mg base CX0 1 f fd ["_law_script","_law_k"] (spCell K):=by
 refine F.ok scCell (fun vs H Q E h=>?_) (fun cdv A outer s H vs Q E hr h=>?_)
 ·obtain⟨a,ns,k,rfl,_⟩:=h
  rfl
 ·obtain⟨a,ns,k,rfl,hS,q⟩:=h
  refine⟨_,pss_cons (ps_if (pt_cmpR op_lt (pv 1) (pe_callB call_len_seq (by rfl) T.len PySem.boot_len (pa_cons (pv 0) pa_nil)) (nomark _)) (pss_one (ps_ret (pe_ix ix_list (pv 0) (pv 1) (fun _ _=>rfl)))) pss_nil) (pss_one (ps_ret pe_int)),?_⟩
  refine⟨_,rfl,_,rfl,a,_,rfl,.inl hS,_,_,rfl,rfl,_,rfl,?_⟩
  refine ite2 (fun hk=>?_) (fun _=>?_)
  ·have hk':k<ns.length:=by
    have:=of_decide_eq_true hk
    rw[List.length_map]at this
    lia
   exact⟨_,rfl,_,rfl,a,_,_,_,rfl,rfl,hS,atI_nat (v:=V.int ns[k]) (by rw[List.getElem?_map,List.getElem?_eq_getElem hk'];rfl),q _⟩
  ·exact q _
theorem scBox:FnScope ["_law_script","_law_k","_law_cell"] ["_law_script","_law_k"] (defScope sBox):=⟨rfl,rfl,rfl,by decide +kernel,rfl,by decide +kernel,by decide +kernel⟩
theorem ok_box{f g:Addr}{fd gd:FuncData}(F:Fun K "_law_box" "_law_box" sBox f fd)(T:Txt mg)(G:Fun K "_law_cell_at" "_law_cell_at" sCell g gd)(mG:mg "_law_cell_at" = some (.ref g))(bG:Binds K gd ["_law_script","_law_k"] []):FnOk P w K mg base CX0 2 f fd ["_law_script","_law_k"] (spBox K):=by
 refine F.ok scBox (fun vs H Q E h=>?_) (fun cdv A outer s H vs Q E hr h=>?_)
 ·obtain⟨a,ns,k,rfl,_⟩:=h
  rfl
 ·obtain⟨a,ns,k,rfl,hS,q⟩:=h
  have GG:FnOk P w K mg base CX0 1 g gd ["_law_script","_law_k"] (spCell K):=ok_cell G T
  refine⟨_,pss_cons (ps_set (i:=2) scBox.nd rfl (Or.inl rfl) (pe_call GG hr rfl mG G.kp bG .nil pass0 (pa_cons (pv 0) (pa_cons (pv 1) pa_nil))))
   (pss_one (ps_ret (pe_lst (pa_cons (pe_op op_mul (pe_callB call_abs (by rfl) T.abs boot_abs (pa_cons (pv 2) pa_nil)) (pe_callTy call_int1 (by rfl) T.int boot_int (pa_cons (pe_cmpR op_ge (pe_callB call_abs (by rfl) T.abs boot_abs (pa_cons (pv 2) pa_nil)) (pe_op op_pow pe_int pe_int) (nomark _)) pa_nil)))
    (pa_cons (pe_op op_add (pe_op op_add (pe_op op_mod (pv 2) pe_int) (pe_op op_mul pe_int (pv 1))) pe_int) (pa_cons pe_int pa_nil)))))),?_⟩
  refine⟨_,rfl,_,rfl,a,ns,k,rfl,hS,fun z=>?_⟩
  refine⟨_,rfl,_,rfl,_,rfl,_,rfl,_,_,rfl,rfl,⟨by decide,by decide,by decide⟩,_,_,rfl,rfl,.inr ⟨_,rfl,_,_,rfl,rfl,.inr ?_,_,rfl,_,_,rfl,rfl,(by show(0:Int)<2305843009213693951;decide),_,rfl,_,_,rfl,rfl,.inl ⟨by decide,by decide⟩,_,_,rfl,rfl,_,_,rfl,rfl,(by show 3<=sizeLine;decide),fun p hp=>?_⟩⟩
  ·exact b01 _
  ·refine q p _ hp ⟨_,_,_,upd_same,?_,by decide,by decide⟩ (Kept.new hp)
   refine Int.mul_nonneg ?_ ?_
   ·split <;> lia
   ·exact b0 _
theorem scTake:FnScope ["_law_box_here","_law_many_here","_law_found","_law_once","_law_twice"] ["_law_box_here","_law_many_here"] (defScope sTake):=⟨rfl,rfl,rfl,by decide +kernel,rfl,by decide +kernel,by decide +kernel⟩
theorem ok_take{f:Addr}{fd:FuncData}(F:Fun K "_law_take" "_law_take" sTake f fd):FnOk P w K mg base CX0 1 f fd ["_law_box_here","_law_many_here"] spTake:=by
 refine F.ok scTake (fun vs H Q E h=>?_) (fun cdv A outer s H vs Q E hr h=>?_)
 ·obtain⟨p,m,N,rfl,_⟩:=h
  rfl
 ·obtain⟨p,m,N,rfl,⟨a,b,c,hp,a0,c0,cN⟩,hN,m0,m1,q⟩:=h
  have hS:∀ {x y z:Int}{G:Hp},G p=some (.lst [.int x,.int y,.int z])->SqL K G p [.int x,.int y,.int z]:=fun e=>SqL.of e
  refine⟨_,pss_cons (ps_if (pt_cmpR op_gt (pe_ix ix_list (pv 0) pe_int (fun _ _=>rfl)) pe_int (nomark _))
    (pss_cons (ps_set (i:=2) scTake.nd rfl (Or.inl rfl) (pe_op op_mod (pe_ix ix_list (pv 0) pe_int (fun _ _=>rfl)) (pv 1)))
     (pss_cons (ps_asg (pe_op op_fdiv (pe_ix ix_list (pv 0) pe_int (fun _ _=>rfl)) (pv 1)) (pg_sub (pv 0) pe_int set_list))
     (pss_one (ps_ret (pv 2))))) pss_nil)
   (pss_cons (ps_asg (pe_op op_add (pe_ix ix_list (pv 0) pe_int (fun _ _=>rfl)) pe_int) (pg_sub (pv 0) pe_int set_list))
   (pss_cons (ps_set (i:=3) scTake.nd rfl (Or.inl rfl) (pe_op op_mod (pe_op op_mul (pe_op op_add (pe_ix ix_list (pv 0) pe_int (fun _ _=>rfl)) (pe_op op_mul pe_int (pe_ix ix_list (pv 0) pe_int (fun _ _=>rfl)))) (pe_op op_add pe_int (pe_ix ix_list (pv 0) pe_int (fun _ _=>rfl)))) pe_int))
   (pss_cons (ps_set (i:=4) scTake.nd rfl (Or.inl rfl) (pe_op op_mod (pe_op op_mul (pe_op op_add (pv 3) (pe_ix ix_list (pv 0) pe_int (fun _ _=>rfl))) (pe_op op_add (pe_op op_mod (pv 3) pe_int) pe_int)) pe_int))
   (pss_one (ps_ret (pe_op op_mod (pe_op op_fdiv (pe_op op_mod (pe_op op_add (pe_op op_mul (pv 4) pe_int) (pv 3)) pe_int) pe_int) (pv 1))))))),?_⟩
  refine⟨_,rfl,p,_,_,_,rfl,rfl,hS hp,rfl,_,_,rfl,rfl,_,rfl,?_⟩
  refine ite2 (fun hk=>?_) (fun _=>?_)
  ·have pos:0<a:=of_decide_eq_true hk
   refine⟨_,rfl,p,_,_,_,rfl,rfl,hS hp,rfl,_,rfl,_,_,rfl,rfl,m0,?_⟩
   refine⟨_,rfl,p,_,_,_,rfl,rfl,hS hp,rfl,_,rfl,_,_,rfl,rfl,⟨m0,m1⟩,_,rfl,p,_,_,_,rfl,rfl,hp,rfl,_,rfl,?_⟩
   refine q _ _ (Int.emod_nonneg _ (by lia)) (Int.emod_lt_of_pos _ m0) ⟨_,_,_,upd_same,Int.ediv_nonneg a0 (by lia),c0,by lia⟩ Kept.at
  ·refine⟨_,rfl,p,_,_,_,rfl,rfl,hS hp,rfl,_,_,rfl,rfl,_,rfl,p,_,_,_,rfl,rfl,hp,rfl,?_⟩
   have g1:(upd H p (.lst [.int a,.int b,.int (c+1)])) p=some (.lst [.int a,.int b,.int (c+1)]):=upd_same
   refine⟨_,rfl,p,_,_,_,rfl,rfl,hS g1,rfl,_,rfl,p,_,_,_,rfl,rfl,hS g1,rfl,_,_,rfl,rfl,.inl ⟨by decide,by decide⟩,_,_,rfl,rfl,_,rfl,p,_,_,_,rfl,rfl,hS g1,rfl,_,_,rfl,rfl,_,_,rfl,rfl,.inr ⟨by lia,by lia⟩,_,_,rfl,rfl,(by show(0:Int)<2147483647;decide),?_⟩
   generalize ho:(b+48271 * (c+1)) * (39373+(c+1)) % 2147483647=once
   have o0:0<=once:=by rw[<- ho];exact Int.emod_nonneg _ (by decide)
   have o1:once<2147483647:=by rw[<- ho];exact Int.emod_lt_of_pos _ (by decide)
   refine⟨_,rfl,_,rfl,p,_,_,_,rfl,rfl,hS g1,rfl,_,_,rfl,rfl,_,rfl,_,_,rfl,rfl,(by show(0:Int)<40009;decide),_,_,rfl,rfl,_,_,rfl,rfl,.inl ⟨by lia,by lia⟩,_,_,rfl,rfl,(by show(0:Int)<2147483629;decide),?_⟩
   generalize ht:(once+(c+1)) * (once % 40009+7) % 2147483629=twice
   have t0:0<=twice:=by rw[<- ht];exact Int.emod_nonneg _ (by decide)
   have t1:twice<2147483629:=by rw[<- ht];exact Int.emod_lt_of_pos _ (by decide)
   refine⟨_,rfl,_,_,rfl,rfl,.inl ⟨by omega,by omega⟩,_,rfl,_,_,rfl,rfl,_,_,rfl,rfl,(by show(0:Int)<2147483587;decide),_,_,rfl,rfl,⟨by decide,by decide⟩,_,rfl,_,_,rfl,rfl,m0,?_⟩
   exact q _ _ (Int.emod_nonneg _ (by lia)) (Int.emod_lt_of_pos _ m0) ⟨_,_,_,g1,a0,by lia,by lia⟩ Kept.at
structure TakeF(P:Program)(w:World)(K:PySem.W.Frag)(mg:Str->Option Value)(base:Heap)(g:Addr)(gd:FuncData):Prop where
 ok:FnOk P w K mg base CX0 1 g gd ["_law_box_here","_law_many_here"] spTake
 mg:mg "_law_take" = some (.ref g)
 kp:PySem.W.keepIn K (.ref g)=true
 bd:Binds K gd ["_law_box_here","_law_many_here"] []
theorem scWeight:FnScope ["_law_box_here","_law_heavy"] ["_law_box_here","_law_heavy"] (defScope sWeight):=⟨rfl,rfl,rfl,by decide +kernel,rfl,by decide +kernel,by decide +kernel⟩
theorem ok_weight{f g:Addr}{fd gd:FuncData}(F:Fun K "_law_weight" "_law_weight" sWeight f fd)(G:TakeF P w K mg base g gd):FnOk P w K mg base CX0 2 f fd ["_law_box_here","_law_heavy"] spWeight:=by
 refine F.ok scWeight (fun vs H Q E h=>?_) (fun cdv A outer s H vs Q E hr h=>?_)
 ·obtain⟨p,h,N,rfl,_⟩:=h
  rfl
 ·obtain⟨p,h,N,rfl,h4,B,hN,q⟩:=h
  refine⟨_,pss_one (ps_ret (pe_op op_add pe_int (pe_call G.ok hr rfl G.mg G.kp G.bd .nil pass0 (pa_cons (pv 0) (@pa_sub _ _ _ _ _ _ _
   (@pe_ix _ _ _ _ _ _ _ ix_list (@pe_lst _ _ _ _ (@pa_cst _ _ _ _ _ _ _ pe_int (@pa_cst _ _ _ _ _ _ _ pe_int (@pa_cst _ _ _ _ _ _ _ pe_int (@pa_sub _ _ _ _ _ _ _ (@pe_ix _ _ _ _ _ _ _ ix_list (@pe_lst _ _ _ _ (@pa_cst _ _ _ _ _ _ _ pe_int (@pa_cst _ _ _ _ _ _ _ pe_int (@pa_bin _ _ _ _ _ _ _ _ (pe_op op_pow pe_int pe_int) pa_nil)))) (pe_call G.ok hr rfl G.mg G.kp G.bd .nil pass0 (pa_cons (pv 0) (pa_cons pe_int pa_nil))) (fun _ _=>rfl)) pa_nil))))) (pv 1) (fun _ _=>rfl)) pa_nil))))),?_⟩
  refine⟨_,rfl,10,9,rfl,rfl,⟨by decide,by decide,by decide⟩,?_⟩
  refine⟨(by show 3<=sizeLine;decide),fun l hl=>?_⟩
  refine⟨_,rfl,p,_,N,rfl,B.new hl,by lia,by decide,by decide,fun z H1 z0 z1 B1 k1=>?_⟩
  have lp:l≠p:=fun e=>by
   obtain⟨a,b,c,e1,_⟩:=B
   rw[e,e1]at hl
   cases hl
  have el:=k1 l _ lp upd_same
  obtain⟨zn,rfl⟩:∃ zn:Nat,z=(zn:Int):=⟨z.toNat,by lia⟩
  have e9:((10:Int) ^ (Int.toNat 9))=1000000000:=by decide +kernel
  try dsimp only at el
  rw[e9]at el
  have h3:zn<3:=by lia
  obtain⟨v,hv,v0,v1⟩:∃ v:Int,[V.int 10,V.int 100,V.int 1000000000][zn]?=some (V.int v)/\0<v/\v<1073741824:=by
   match zn,h3 with
   | 0,_=>exact⟨_,rfl,by decide,by decide⟩
   | 1,_=>exact⟨_,rfl,by decide,by decide⟩
   | 2,_=>exact⟨_,rfl,by decide,by decide⟩
  refine⟨l,_,_,_,rfl,rfl,SqL.of el,atI_nat hv,(by show 4<=sizeLine;decide),fun l2 hl2=>?_⟩
  obtain⟨v',hv',v0',v1'⟩:∃ v':Int,[V.int 1,V.int 3,V.int 9,V.int v][h]?=some (V.int v')/\0<v'/\v'<1073741824:=by
   match h,h4 with
   | 0,_=>exact⟨_,rfl,by decide,by decide⟩
   | 1,_=>exact⟨_,rfl,by decide,by decide⟩
   | 2,_=>exact⟨_,rfl,by decide,by decide⟩
   | 3,_=>exact⟨_,rfl,v0,v1⟩
  refine⟨_,rfl,l2,_,_,_,rfl,rfl,SqL.of upd_same,atI_nat hv',p,_,N+1,rfl,B1.new hl2,by lia,v0',v1',fun y H2 y0 y1 B2 k2=>⟨_,_,rfl,rfl,?_⟩⟩
  exact q _ _ (by lia) B2 ((Kept.new hl).trans (k1.trans ((Kept.new hl2).trans k2)))
end
noncomputable abbrev Tie:=Int×Int×Int
noncomputable def tieV(x:Tie):List V:=[.int x.1,.int x.2.1,.int x.2.2]
structure WebAt(H:Hp)(t:Addr)(n:Nat)(ties:List Tie):Prop where
 ex:∃ (ts:Addr) (as:List Addr),H t=some (.tup [.int n,.ref ts])/\H ts=some (.tup (as.map V.ref))/\Paired (fun a x=>H a=some (.tup (tieV x))) as ties
 len:ties.length<=60
theorem WebAt.same{H H':Hp}{t:Addr}{n:Nat}{ties:List Tie}(W:WebAt H t n ties)(s:Same H H'):WebAt H' t n ties:=by
 obtain⟨⟨ts,as,h1,h2,h3⟩,l⟩:=W
 exact⟨⟨ts,as,s _ _ h1,s _ _ h2,Paired.mapP h3 fun a x e=>s _ _ e⟩,l⟩
theorem flat_ints(ns:List Int):(ns.map V.int).all flatV=true:=by
 rw[List.all_map,List.all_eq_true]
 intro x _
 rfl
theorem inV_ints(z:Int):∀ ns:List Int,inV (V.int z) (ns.map V.int)=ns.contains z
 |[]=>rfl
 |n :: ns=>by
  have ih:=inV_ints z ns
  unfold inV at ih ⊢
  rw[List.map_cons,List.any_cons,ih,List.contains_cons]
  congr 1
  show(n == z)=(z == n)
  exact Bool.beq_comm
theorem Kept.free{p l:Addr}{H H':Hp}{M:Nat}(k:Kept p H H')(B:BoxAt H' p M)(h:H' l=none):H l=none:=by
 cases e:H l with
 |none=>rfl
 |some o =>
  by_cases lp:l=p
  ·obtain⟨a,b,c,e1,_⟩:=B
   rw[lp,e1]at h
   cases h
  ·rw[k l o lp e]at h
   cases h
theorem BoxAt.ne{H:Hp}{p l:Addr}{N:Nat}(B:BoxAt H p N)(h:H l=none):l≠p:=fun e=>by
 obtain⟨a,b,c,e1,_⟩:=B
 rw[e,e1]at h
 cases h
theorem Kept.put{p d:Addr}{H H':Hp}{o:HO}(k:Kept p H H')(h:H d=none):Kept p H (upd H' d o):=fun b u n e=>by
 rw[upd_ne (ne_of_none e h)]
 exact k b u n e
theorem BoxAt.put{H:Hp}{p d:Addr}{N:Nat}{o:HO}(B:BoxAt H p N)(h:d≠p):BoxAt (upd H d o) p N:=by
 obtain⟨a,b,c,e,r⟩:=B
 exact⟨a,b,c,by rw[upd_ne (Ne.symm h)];exact e,r⟩
theorem tTru_if{σ:L2.St}{H:Hp}{A B:Hp->Prop}(h:A H):tTru σ H (fun b H3=>if b=true then A H3 else B H3):=by
 show if true=true then A H else B H
 exact iteT h
theorem Paired.snoc{α β:Type}{F:α->β->Prop}:∀ {l₁:List α}{l₂:List β}{a:α}{b:β},Paired F l₁ l₂->F a b->Paired F (l₁++[a]) (l₂++[b]):=by
 intro l ks a b h r
 induction h with
 |nil=>exact .cons r .nil
 |cons q t ih=>exact .cons q ih
noncomputable def TieOk(n:Nat)(x:Tie):Prop:=0<=x.1/\x.1<x.2.1/\x.2.1<n/\1<=x.2.2
noncomputable def tieLt(x y:Tie):Prop:=Srt.lexlt [x.1,x.2.1] [y.1,y.2.1]=true
noncomputable def KeyOk(n:Nat)(kv:List Key×V):Prop:=∃ a b c:Int,kv=([Sum.inl a,Sum.inl b],V.int c)/\TieOk n (a,b,c)
noncomputable def DInv(n:Nat)(kvs:List (List Key×V)):Prop:=(∀ kv∈kvs,KeyOk n kv)/\(kvs.map (·.1)).Nodup
theorem DInv.put{n:Nat}{kvs:List (List Key×V)}(h:DInv n kvs){a b c:Int}(ok:TieOk n (a,b,c)):DInv n (putK kvs [Sum.inl a,Sum.inl b] (V.int c))/\(putK kvs [Sum.inl a,Sum.inl b] (V.int c)).length<=kvs.length+1:=by
 unfold putK
 by_cases ex:(kvs.any fun kv=>decide (kv.1=[Sum.inl a,Sum.inl b]))=true
 ·rw[if_pos ex]
  refine⟨⟨fun kv hk=>?_,?_⟩,by rw[List.length_map];lia⟩
  ·obtain⟨q,hq,e⟩:=List.mem_map.mp hk
   by_cases z:q.1=[Sum.inl a,Sum.inl b]
   ·rw[if_pos z,z]at e
    exact⟨a,b,c,e.symm,ok⟩
   ·rw[if_neg z]at e
    rw[<- e]
    exact h.1 q hq
  ·have e:(kvs.map fun kv=>if kv.1=[Sum.inl a,Sum.inl b]then(kv.1,V.int c)else kv).map (·.1)=kvs.map (·.1):=by
    rw[List.map_map]
    refine List.map_congr_left fun q _=>?_
    show(if q.1=[Sum.inl a,Sum.inl b]then(q.1,V.int c)else q).1=q.1
    split <;> rfl
   rw[e]
   exact h.2
 ·rw[if_neg ex]
  refine⟨⟨fun kv hk=>?_,?_⟩,by rw[List.length_append];exact Nat.le_refl _⟩
  ·rcases List.mem_append.mp hk with z | z
   ·exact h.1 kv z
   ·exact⟨a,b,c,List.mem_singleton.mp z,ok⟩
  ·rw[List.map_append,List.nodup_append]
   refine⟨h.2,by simp,fun x hx y hy=>?_⟩
   have ey:y=[Sum.inl a,Sum.inl b]:=by simpa using hy
   subst ey
   intro z
   subst z
   obtain⟨q,hq,e⟩:=List.mem_map.mp hx
   exact ex (List.any_eq_true.mpr ⟨q,hq,decide_eq_true e⟩)
noncomputable def unkey(k:List Key):List Int:=k.map fun x=>match x with
 | .inl i=>i
 | .inr _=>0
theorem keys_of{n:Nat}:∀ {kvs:List (List Key×V)},(∀ kv∈kvs,KeyOk n kv)->kvs.map (·.1)=List.map (List.map Sum.inl) (kvs.map fun kv=>unkey kv.1)
 |[],_=>rfl
 |kv :: kvs,h=>by
  obtain⟨a,b,c,e,_⟩:=h kv (List.mem_cons_self ..)
  rw[List.map_cons,List.map_cons,List.map_cons,keys_of fun q hq=>h q (List.mem_cons_of_mem _ hq),e]
  rfl
theorem DInv.keys{n:Nat}{kvs:List (List Key×V)}(h:DInv n kvs):kvs.map (·.1)=List.map (List.map Sum.inl) (kvs.map fun kv=>unkey kv.1):=keys_of h.1
theorem DInv.nodup{n:Nat}{kvs:List (List Key×V)}(h:DInv n kvs):(kvs.map fun kv=>unkey kv.1).Nodup:=by
 have:=h.2
 rw[h.keys]at this
 unfold List.Nodup at this ⊢
 rw[List.pairwise_map]at this
 exact this.imp fun {x y} z e=>z (by rw[e])
theorem valV_mem{kvs:List (List Key×V)}{k:List Key}(h:k∈kvs.map (·.1)):∃ v,valV kvs k=some v/\(k,v)∈kvs:=by
 induction kvs with
 |nil=>cases h
 |cons q r ih =>
  by_cases e:q.1=k
  ·exact⟨q.2,valV_pos e,by rw[<- e];exact List.mem_cons_self ..⟩
  ·rw[List.map_cons]at h
   rcases List.mem_cons.mp h with z | z
   ·exact absurd z.symm e
   ·obtain⟨v,h1,h2⟩:=ih z
    exact⟨v,(valV_neg e).trans h1,List.mem_cons_of_mem _ h2⟩
inductive spWebI(vs:List V)(H:Hp)(Q:VK):Prop where
 |mk (p:Addr) (n N:Nat) (h1:vs=[.ref p,.int n]) (h2:BoxAt H p N) (h3:N+1000<2 ^ 40) (h4:1<=n) (h5:n<=8) (h6:∀ (t:Addr) (ties:List Tie) (H':Hp),H t=none->WebAt H' t n ties->(∀ x∈ties,TieOk n x)->ties.Pairwise tieLt->BoxAt H' p (N+1000)->Kept p H H'->Q (.ref t) H')
noncomputable def spWeb:Sp:=fun vs H Q _=>spWebI vs H Q
structure WeightF(P:Program)(w:World)(K:PySem.W.Frag)(mg:Str->Option Value)(base:Heap)(g:Addr)(gd:FuncData):Prop where
 ok:FnOk P w K mg base CX0 2 g gd ["_law_box_here","_law_heavy"] spWeight
 mg:mg "_law_weight" = some (.ref g)
 kp:PySem.W.keepIn K (.ref g)=true
 bd:Binds K gd ["_law_box_here","_law_heavy"] []
structure WI(H:Hp)(p d:Addr)(n M c:Nat)(kvs:List (List Key×V))(H':Hp):Prop where
 box:BoxAt H' p M
 dic:H' d=some (.dT kvs)
 inv:DInv n kvs
 len:kvs.length<=c
 kep:Kept p H H'
theorem WI.keep{H H' H'':Hp}{p d:Addr}{n M M' c:Nat}{kvs:List (List Key×V)}(W:WI H p d n M c kvs H')(dp:d≠p)(k:Kept p H' H'')(B:BoxAt H'' p M'):WI H p d n M' c kvs H'' :=
 ⟨B,k d _ dp W.dic,W.inv,W.len,W.kep.trans k⟩
theorem WI.mono{H H':Hp}{p d:Addr}{n M M' c c':Nat}{kvs:List (List Key×V)}(W:WI H p d n M c kvs H')(h:M<=M')(h2:c<=c'):WI H p d n M' c' kvs H' :=
 ⟨W.box.mono h,W.dic,W.inv,Nat.le_trans W.len h2,W.kep⟩
theorem WI.new{H H':Hp}{p d q:Addr}{n M c:Nat}{kvs:List (List Key×V)}{o:HO}(W:WI H p d n M c kvs H')(h:H' q=none):WI H p d n M c kvs (upd H' q o) :=
 ⟨W.box.new h,by rw[upd_ne (ne_of_none W.dic h)];exact W.dic,W.inv,W.len,W.kep.trans (Kept.new h)⟩
theorem WI.put{H H':Hp}{p d:Addr}{n M c:Nat}{kvs:List (List Key×V)}(W:WI H p d n M c kvs H')(dp:d≠p)(hd:H d=none){a b x:Int}(ok:TieOk n (a,b,x)):WI H p d n M (c+1) (putK kvs [Sum.inl a,Sum.inl b] (V.int x)) (upd H' d (.dT (putK kvs [Sum.inl a,Sum.inl b] (V.int x)))) :=
 ⟨W.box.put dp,upd_same,(W.inv.put ok).1,Nat.le_trans (W.inv.put ok).2 (Nat.succ_le_succ W.len),W.kep.put hd⟩
section
variable{P:Program}{w:World}{K:PySem.W.Frag}{mg:Str->Option Value}{base:Heap}
noncomputable abbrev nWeb:List Str:=["_law_box_here","_law_many_here","_law_heavy","_law_ties","_law_place","_law_turn","_law_one","_law_other"]
theorem scWeb:FnScope nWeb ["_law_box_here","_law_many_here"] (defScope sWeb):=⟨rfl,rfl,rfl,by decide +kernel,rfl,by decide +kernel,by decide +kernel⟩
theorem csWeb:CompScope ["_law_pair","_law_ties"] [none,some 3] nWeb (defScope sWeb) { kind:=.function,names:=[(".0",.local),("_law_pair",.local),("_law_ties",.free)],isGenerator:=false,isCoroutine:=false } :=
 ⟨rfl,by decide +kernel,by decide +kernel,by decide +kernel,rfl,capB_ok (by decide +kernel)⟩
theorem ndWeb:(["_law_pair","_law_ties"]:List Str).Nodup:=by decide +kernel
theorem ok_web{f g g2:Addr}{fd gd gd2:FuncData}(F:Fun K "_law_web" "_law_web" sWeb f fd)(T:Txt mg)(G:TakeF P w K mg base g gd)(G2:WeightF P w K mg base g2 gd2):FnOk P w K mg base CX0 3 f fd ["_law_box_here","_law_many_here"] spWeb:=by
 refine F.ok scWeb (fun vs H Q E h=>?_) (fun cdv A outer s H vs Q E hr h=>?_)
 ·obtain⟨p,n,N,rfl,_⟩:=h
  rfl
 ·obtain⟨p,n,N,rfl,B,hN,n1,n30,q⟩:=h
  have hu:=hu_of hr
  have hr1:Room 1 _:=hr.mono (by decide)
  refine⟨_,pss_cons (ps_set (i:=2) scWeb.nd rfl (Or.inl rfl) (pe_call G.ok hr1 rfl G.mg G.kp G.bd .nil pass0 (@pa_nam _ _ _ _ _ _ (pv 0) (@pa_cst _ _ _ _ _ _ _ pe_int pa_nil))))
   (pss_cons (ps_set (i:=3) scWeb.nd rfl (Or.inr rfl) pe_dnewT)
   (pss_cons (ps_for PassesOwn.never rfl (pi_range2 rfl T.range (@pa_cst _ _ _ _ _ _ _ pe_int (@pa_nam _ _ _ _ _ _ (pv 1) pa_nil))) (pg_name (i:=4) scWeb.nd rfl (Or.inl rfl))
    (pss_one (ps_if (pt_cmpR op_gt (pe_call G.ok hr1 rfl G.mg G.kp G.bd .nil pass0 (@pa_nam _ _ _ _ _ _ (pv 0) (@pa_cst _ _ _ _ _ _ _ pe_int pa_nil))) pe_int (nomark _))
     (pss_one (ps_dput hu (pv 3) (@pe_tup _ _ _ _ _ (@pa_call _ _ _ _ _ _ _ _ (pe_call G.ok hr1 rfl G.mg G.kp G.bd .nil pass0 (@pa_nam _ _ _ _ _ _ (pv 0) (@pa_nam _ _ _ _ _ _ (pv 4) pa_nil))) (@pa_nam _ _ _ _ _ _ (pv 4) pa_nil))) (pe_call G2.ok hr rfl G2.mg G2.kp G2.bd .nil pass0 (@pa_nam _ _ _ _ _ _ (pv 0) (@pa_nam _ _ _ _ _ _ (pv 2) pa_nil))) rfl)) pss_nil)))
   (pss_cons (ps_for PassesOwn.never rfl (pi_range1 rfl T.range (@pa_call _ _ _ _ _ _ _ _ (pe_callB (call_min2 rfl) (by rfl) T.min boot_min (@pa_call _ _ _ _ _ _ _ _ (pe_call G.ok hr1 rfl G.mg G.kp G.bd .nil pass0 (@pa_nam _ _ _ _ _ _ (pv 0) (@pa_bin _ _ _ _ _ _ _ _ (pe_op op_add (pe_op op_mul pe_int (pv 1)) pe_int) pa_nil))) (@pa_bin _ _ _ _ _ _ _ _ (pe_op op_sub pe_int (pv 1)) pa_nil))) pa_nil)) (pg_name (i:=5) scWeb.nd rfl (Or.inl rfl))
    (pss_cons (ps_par rfl scWeb.nd (i:=6) (j:=7) rfl rfl (by decide) rfl rfl (@pa_call _ _ _ _ _ _ _ _ (pe_call G.ok hr1 rfl G.mg G.kp G.bd .nil pass0 (@pa_nam _ _ _ _ _ _ (pv 0) (@pa_nam _ _ _ _ _ _ (pv 1) pa_nil))) (@pa_call _ _ _ _ _ _ _ _ (pe_call G.ok hr1 rfl G.mg G.kp G.bd .nil pass0 (@pa_nam _ _ _ _ _ _ (pv 0) (@pa_nam _ _ _ _ _ _ (pv 1) pa_nil))) pa_nil)) rfl)
    (pss_one (ps_if (pt_cmpR op_ne (pv 6) (pv 7) (nomark _)) (pss_one (ps_dput hu (pv 3) (@pe_tup _ _ _ _ _ (@pa_call _ _ _ _ _ _ _ _ (pe_callB (call_min2 rfl) (by rfl) T.min boot_min (@pa_nam _ _ _ _ _ _ (pv 6) (@pa_nam _ _ _ _ _ _ (pv 7) pa_nil))) (@pa_call _ _ _ _ _ _ _ _ (pe_callB (call_max2 rfl) (by rfl) T.max boot_max (@pa_nam _ _ _ _ _ _ (pv 6) (@pa_nam _ _ _ _ _ _ (pv 7) pa_nil))) pa_nil))) (pe_call G2.ok hr rfl G2.mg G2.kp G2.bd .nil pass0 (@pa_nam _ _ _ _ _ _ (pv 0) (@pa_nam _ _ _ _ _ _ (pv 2) pa_nil))) rfl)) pss_nil))))
   (pss_one (ps_ret (@pe_tup _ _ _ _ _ (@pa_nam _ _ _ _ _ _ (pv 1) (@pa_call _ _ _ _ _ _ _ _ (pe_callTy call_tuple_of (by rfl) T.tuple boot_tuple (@pa_comp _ _ _ _ _ _ _ _ (pe_comp rfl csWeb
    (pi_list (pe_callB (call_sortedD rfl) (by rfl) T.sorted boot_sorted (@pa_nam _ _ _ _ _ _ (pv 3) pa_nil)))
    (fun C s H fp=>pg_name (i:=0) ndWeb rfl (Or.inl rfl)) (fun C s H fp=>pf_nil)
    (fun C s H fp=>pe_op (op_catTK K rfl) (pv 0) (@pe_tup _ _ _ _ _ (@pa_sub _ _ _ _ _ _ _ (pe_dget hu (pv 1) (pv 0) (fun _ _=>rfl)) pa_nil)))) pa_nil)) pa_nil)))))))),?_⟩
  refine⟨_,rfl,p,_,N,rfl,B,by lia,by decide,by decide,fun z H1 z0 z1 B1 k1=>?_⟩
  obtain⟨hh,rfl⟩:∃ hh:Nat,z=(hh:Int):=⟨z.toNat,by lia⟩
  have h4:hh<4:=by lia
  intro d hd
  have dp:d≠p:=B1.ne hd
  have hd0:H d=none:=k1.free B1 hd
  have W0:WI H p d n (N+1) 0 [] (upd H1 d (.dT [])):=⟨B1.new hd,upd_same,⟨fun _ h=>(nomatch h),List.nodup_nil⟩,Nat.le_refl _,k1.trans (Kept.new hd)⟩
  refine⟨_,rfl,1,(n:Int),rfl,⟨by decide,by decide,by lia,by lia⟩,?_⟩
  refine for_range (lo:=1) (n:=((n:Int)-1).toNat) (fun i σ H'=>∃ kvs v,σ=[some (.ref p),some (.int n),some (.int hh),some (.ref d),v,none,none,none]/\WI H p d n (N+1+4 * i) i kvs H') ⟨[],none,rfl,W0⟩ ?_ ?_
  ·rintro i σ H' hi ⟨kvs,v,rfl,W⟩
   have len:=W.len
   refine⟨_,rfl,p,_,_,rfl,W.box,by lia,by decide,by decide,fun z H3 y0 y1 B3 k3=>⟨_,_,rfl,rfl,_,rfl,?_⟩⟩
   have W3:=W.keep dp k3 B3
   refine ite2 (fun _=>?_) (fun _=>?_)
   ·refine⟨_,rfl,_,rfl,p,hh,_,rfl,h4,B3,by lia,fun x H4 x1 B4 k4=>⟨_,rfl,_,rfl,_,rfl,p,_,_,rfl,B4,by lia,by lia,by omega,fun a H5 a0 a1 B5 k5=>⟨_,rfl,(by show 2<=sizeLine;decide),fun tp htp=>?_⟩⟩⟩
    have W5:=((W3.keep dp k4 B4).keep dp k5 B5).new (o:=.tup [.int a,.int (1+(i:Int))]) htp
    refine⟨d,_,rfl,DPut.t (k:=[Sum.inl a,Sum.inl (1+(i:Int))]) W5.dic upd_same (by rw[sizeLine_eq];lia),?_⟩
    exact⟨_,_,rfl,(W5.put dp hd0 ⟨a0,by show a<1+(i:Int);omega,by show 1+(i:Int) <(n:Int);omega,x1⟩).mono (by lia) (by lia)⟩
   ·exact⟨_,_,rfl,W3.mono (by lia) (by lia)⟩
  ·rintro σ H' ⟨kvs,v,rfl,W⟩
   have len0:=W.len
   refine⟨_,rfl,_,rfl,_,_,rfl,rfl,.inl ⟨by decide,by decide⟩,_,_,rfl,rfl,p,_,_,rfl,W.box,by lia,by lia,by lia,fun z H3 y0 y1 B3 k3=>⟨_,rfl,_,_,rfl,rfl,_,_,rfl,_,rfl,?_,?_,?_⟩⟩
   ·split <;> lia
   ·split <;> lia
   have W3:=W.keep dp k3 B3
   have cb:(if 91-(n:Int)<z then 91-(n:Int)else z).toNat<=2 * n:=by split <;> lia
   generalize (if 91-(n:Int)<z then 91-(n:Int)else z).toNat=cnt at cb
   refine for_range (lo:=0) (n:=cnt) (fun i σ H'=>∃ kvs v4 v5 v6 v7,σ=[some (.ref p),some (.int n),some (.int hh),some (.ref d),v4,v5,v6,v7]/\WI H p d n (N+200+4 * i) (n-1+i) kvs H') ⟨kvs,v,none,none,none,rfl,W3.mono (by lia) (by lia)⟩ ?_ ?_
   ·clear W W3 B3 k3 len0
    rintro i σ H' hi ⟨kvs,v4,v5,v6,v7,rfl,W⟩
    have len:=W.len
    refine⟨_,rfl,_,rfl,p,_,_,rfl,W.box,by lia,by lia,by lia,fun x H4 x0 x1 B4 k4=>⟨_,rfl,_,rfl,p,_,_,rfl,B4,by lia,by lia,by lia,fun y H5 w0 w1 B5 k5=>⟨_,_,rfl,?_⟩⟩⟩
    have W5:=(W.keep dp k4 B4).keep dp k5 B5
    refine⟨_,rfl,_,rfl,rfl,_,rfl,?_⟩
    refine ite2 (fun hxy=>?_) (fun _=>?_)
    ·have xy:x≠y:=fun z=>by rw[z]at hxy;simp at hxy
     refine⟨_,rfl,_,rfl,p,hh,_,rfl,h4,B5,by lia,fun c H6 c1 B6 k6=>⟨_,rfl,_,rfl,_,rfl,_,_,rfl,_,rfl,_,rfl,_,_,rfl,(by show 2<=sizeLine;decide),fun tp htp=>?_⟩⟩
     have W6:=(W5.keep dp k6 B6).new (o:=.tup [.int (if y<x then y else x),.int (if y > x then y else x)]) htp
     refine⟨d,_,rfl,DPut.t (k:=[Sum.inl (if y<x then y else x),Sum.inl (if y > x then y else x)]) W6.dic upd_same (by rw[sizeLine_eq];lia),?_⟩
     refine⟨_,_,_,_,_,rfl,(W6.put dp hd0 ⟨?_,?_,?_,c1⟩).mono (by lia) (by lia)⟩
     ·show(0:Int)<=if y<x then y else x
      split <;> omega
     ·show(if y<x then y else x) <(if y > x then y else x)
      split <;> split <;> omega
     ·show(if y > x then y else x) <(n:Int)
      split <;> omega
    ·exact⟨_,_,_,_,_,rfl,W5.mono (by lia) (by lia)⟩
   ·clear W W3 B3 k3 len0
    rintro σ H' ⟨kvs,v4,v5,v6,v7,rfl,W⟩
    have len:=W.len
    refine⟨_,rfl,_,rfl,d,kvs,kvs.map (fun kv=>unkey kv.1),rfl,W.dic,W.inv.keys,fun k hk=>?_,by lia,fun l as ns hl perm pw pt=>⟨l,rfl,⟨_,SqL.of upd_same⟩,?_⟩⟩
    ·obtain⟨kv,hkv,rfl⟩:=List.mem_map.mp hk
     obtain⟨a,b,c,e,_⟩:=W.inv.1 kv hkv
     rw[e]
     exact fun z=>nomatch z
    have W1:=W.new (o:=.lst (as.map V.ref)) hl
    have lenA:as.length=ns.length:=pt.length
    have lenN:ns.length=kvs.length:=by rw[perm.length_eq,List.length_map]
    -- each key is there
    have keyAt:∀ i (h1:i<as.length),∃ a b c:Int,H' as[i]=some (.tup [.int a,.int b])/\valV kvs [Sum.inl a,Sum.inl b]=some (V.int c)/\TieOk n (a,b,c)/\ns[i]?=some [a,b]:=fun i h1=>by
     have h2:i<ns.length:=by lia
     have e1:=Paired.at pt i h1 h2
     have m1:ns[i]∈kvs.map (fun kv=>unkey kv.1):=perm.mem_iff.mp (List.getElem_mem h2)
     obtain⟨kv,hkv,e2⟩:=List.mem_map.mp m1
     obtain⟨a,b,c,e3,ok⟩:=W.inv.1 kv hkv
     rw[e3]at e2
     have e4:ns[i]=[a,b]:=e2.symm
     rw[e4]at e1
     have m2:[Sum.inl a,Sum.inl b]∈kvs.map (·.1):=List.mem_map.mpr ⟨kv,hkv,by rw[e3]⟩
     obtain⟨v,v1,v2⟩:=valV_mem m2
     obtain⟨a',b',c',e5,ok'⟩:=W.inv.1 _ v2
     cases e5
     exact⟨a,b,c',e1,v1,ok',by rw[List.getElem?_eq_getElem h2,e4]⟩
    refine comp_list (K:=K) (a:=l) (xs:=as.map V.ref) (fun i ys G=>Same (upd H' l (.lst (as.map V.ref))) G/\∃ (bs:List Addr) (tl:List Tie),ys=bs.map V.ref/\Paired (fun b x=>G b=some (.tup (tieV x))) bs tl/\(∀ x∈tl,TieOk n x)/\tl.map (fun x=>[x.1,x.2.1])=ns.take i) (by rw[List.length_map,sizeLine_eq];lia) ⟨Same.refl _,[],[],rfl,.nil,(fun _ h=>nomatch h),rfl⟩ (fun i ys G _ pp=>pp.1.seq (SqL.of upd_same)) ?_ ?_
    ·rintro i x ys G hi ⟨sm,bs,tl,rfl,pr,oks,eks⟩
     obtain⟨il,e⟩:=List.getElem?_eq_some_iff.mp hi
     rw[List.length_map]at il
     rw[List.getElem_map]at e
     subst e
     obtain⟨a,b,c,ha,hv,ok,nsi⟩:=keyAt i il
     have ha2:G as[i]=some (.tup [.int a,.int b]):=sm _ _ (by rw[upd_ne (ne_of_none ha hl)];exact ha)
     have hd2:G d=some (.dT kvs):=sm _ _ W1.dic
     have g0:DGet G d (V.ref as[i]) (valV kvs [Sum.inl a,Sum.inl b]):=DGet.t hd2 ha2
     rw[hv]at g0
     refine⟨⟨rfl,trivial⟩,tTru_if ?_⟩
     refine⟨_,rfl,_,rfl,_,rfl,d,_,rfl,g0,(by show 1<=sizeLine;decide),fun t1 ht1=>⟨as[i],t1,[.int a,.int b],[.int c],rfl,rfl,SqT.of (by rw[upd_ne (ne_of_none ha2 ht1)];exact ha2),SqT.of upd_same,(fun z=>nomatch z),(by show 3<=sizeLine;decide),(fun z=>nomatch z),fun _ t2 ht2=>?_⟩⟩
     have sm2:Same G (upd (upd G t1 (.tup [.int c])) t2 (.tup ([.int a,.int b]++[.int c]))):=(Same.new ht1).trans (Same.new ht2)
     refine⟨sm.trans sm2,bs++[t2],tl++[(a,b,c)],by rw[List.map_append];rfl,?_,fun x hx=>?_,?_⟩
     ·refine Paired.snoc (Paired.mapP pr fun b x e=>sm2 _ _ e) upd_same
     ·rcases List.mem_append.mp hx with z | z
      ·exact oks x z
      ·rw[List.mem_singleton.mp z];exact ok
     ·obtain⟨ni,ne⟩:=List.getElem?_eq_some_iff.mp nsi
      rw[List.map_append,eks,List.take_succ_eq_append_getElem ni,ne]
      rfl
    ·rintro ys G yl ⟨sm,bs,tl,rfl,pr,oks,eks⟩ D hD
     rw[List.length_map]at yl
     refine⟨D,_,rfl,.inl ⟨SqL.of upd_same,fun ts hts=>⟨(by show 2<=sizeLine;decide),fun t ht=>?_⟩⟩⟩
     have s1:Same G (upd G D (.lst (bs.map V.ref))):=Same.new hD
     have s2:Same (upd G D (.lst (bs.map V.ref))) (upd (upd G D (.lst (bs.map V.ref))) ts (.tup (bs.map V.ref))):=Same.new hts
     have s3:=Same.new (o:=.tup [.int n,.ref ts]) ht
     have sA:=sm.trans (s1.trans (s2.trans s3))
     have kA:Kept p H (upd (upd (upd G D (.lst (bs.map V.ref))) ts (.tup (bs.map V.ref))) t (.tup [.int n,.ref ts])):=W1.kep.trans fun b o _ e=>sA b o e
     have bA:BoxAt (upd (upd (upd G D (.lst (bs.map V.ref))) ts (.tup (bs.map V.ref))) t (.tup [.int n,.ref ts])) p (N+1000):=by
      obtain⟨a,b,c,e,r1,r2,r3⟩:=W1.box
      exact⟨a,b,c,sA _ _ e,r1,r2,by lia⟩
     refine q t tl _ ?_ ⟨⟨ts,bs,upd_same,s3 _ _ upd_same,Paired.mapP pr fun b x e=>s3 _ _ (s2 _ _ (s1 _ _ e))⟩,?_⟩ oks ?_ bA kA
     ·have f1:H' t=none:=(Same.new hl).free (sm.free (s1.free (s2.free ht)))
      exact W.kep.free W.box f1
     ·have:=pr.length
      rw[List.length_map]at yl
      lia
     ·rw[List.take_of_length_le (by rw[List.length_map];lia)]at eks
      have nd:ns.Nodup:=perm.nodup_iff.mpr W.inv.nodup
      have st:ns.Pairwise (fun x y=>Srt.lexlt x y=true):=(pw.and nd).imp fun {x y} z=>by
       cases e:Srt.lexlt x y with
       |true=>rfl
       |false=>exact absurd (Srt.lexlt_total x y e z.1) z.2
      rw[<- eks,List.pairwise_map]at st
      exact st
end
end K19
namespace L2
open PySem PyProof.Rows
section
variable{K:PySem.W.Frag}{a D:Addr}{xs:List V}{b:Bool}{g:TG}{tc:TT}{tk tv:TE}{cap:List (Option Nat)}{σ:St}{H1:Hp}{Q:VK}
theorem dcomp_tup(P:Nat->Hp->Prop)(p0:P 0 H1)(hl:∀ i H,i<=xs.length->P i H->SqT K H a xs)
  (hs:∀ i x H,xs[i]?=some x->P i H->g x (capt cap σ) H fun σ2 H2=>Kp (capt cap σ) σ2/\tc σ2 H2 fun b H3=>if b=true then tk σ2 H3 fun k H4=>tv σ2 H4 fun y H5=>∃ H6,DPut H5 D k y H6/\P (i+1) H6 else P (i+1) H3)
  (hd:∀ H,P xs.length H->Q (.ref D) H):dcompTurns (Itt K a) cap σ H1 D Q g tc tk tv:=by
 refine⟨xs.length,P,p0,fun i H il p=>?_⟩
 have q:=hl i H il p
 by_cases hlt:i<xs.length
 ·refine .inr ⟨hlt,⟨xs,xs[i],q,by simp[hlt]⟩,fun x H' y=>?_⟩
  obtain⟨e,y⟩:=y
  subst e
  exact hs i x _ (y xs q) p
 ·have e:i=xs.length:=by lia
  subst e
  exact .inl ⟨⟨xs,q,Nat.le_refl _⟩,hd H p⟩
theorem dcomp_list(P:Nat->Hp->Prop)(p0:P 0 H1)(hl:∀ i H,i<=xs.length->P i H->SqL K H a xs)
  (hs:∀ i x H,xs[i]?=some x->P i H->g x (capt cap σ) H fun σ2 H2=>Kp (capt cap σ) σ2/\tc σ2 H2 fun b H3=>if b=true then tk σ2 H3 fun k H4=>tv σ2 H4 fun y H5=>∃ H6,DPut H5 D k y H6/\P (i+1) H6 else P (i+1) H3)
  (hd:∀ H,P xs.length H->Q (.ref D) H):dcompTurns (Itl K a) cap σ H1 D Q g tc tk tv:=by
 refine⟨xs.length,P,p0,fun i H il p=>?_⟩
 have q:=hl i H il p
 by_cases hlt:i<xs.length
 ·refine .inr ⟨hlt,⟨xs,xs[i],q,by simp[hlt]⟩,fun x H' y=>?_⟩
  obtain⟨e,y⟩:=y
  subst e
  exact hs i x _ (y xs q) p
 ·have e:i=xs.length:=by lia
  subst e
  exact .inl ⟨⟨xs,q,Nat.le_refl _⟩,hd H p⟩
noncomputable def ItB(b:Bool)(K:PySem.W.Frag)(a:Addr):It:=match b with
 |true=>Itt K a
 |false=>Itl K a
noncomputable def iSeq(b:Bool)(K:PySem.W.Frag)(tl:TE):TI:=fun σ H R=>tl σ H fun x H1=>ExS x (fun a=>∃ xs,SqB b K H1 a xs) fun a=>R (ItB b K a) H1
theorem pi_seq{X:Cx}{tg l:Expr}{tl:TE}(b:Bool)(hl:PE X l tl):PI X tg l (iSeq b X.K tl):=by
 cases b
 ·exact pi_list hl
 ·exact pi_tup hl
theorem comp_seq{te:TE}{a:Addr}{xs:List V}(P:Nat->List V->Hp->Prop)(hz:xs.length<=sizeLine)(p0:P 0 [] H1)(hl:∀ i ys H,i<=xs.length->P i ys H->SqB b K H a xs)
  (hs:∀ i x ys H,xs[i]?=some x->P i ys H->g x (capt cap σ) H fun σ2 H2=>Kp (capt cap σ) σ2/\tc σ2 H2 fun b H3=>if b=true then te σ2 H3 fun y H4=>P (i+1) (ys++[y]) H4 else P (i+1) ys H3)
  (hd:∀ ys H,ys.length<=xs.length->P xs.length ys H->∀ D,H D=none->Q (.ref D) (upd H D (.lst ys))):compTurns (ItB b K a) cap σ H1 Q g tc te:=by
 cases b
 ·exact comp_list P hz p0 hl hs hd
 ·exact comp_tup P hz p0 hl hs hd
theorem dcomp_seq(P:Nat->Hp->Prop)(p0:P 0 H1)(hl:∀ i H,i<=xs.length->P i H->SqB b K H a xs)
  (hs:∀ i x H,xs[i]?=some x->P i H->g x (capt cap σ) H fun σ2 H2=>Kp (capt cap σ) σ2/\tc σ2 H2 fun b H3=>if b=true then tk σ2 H3 fun k H4=>tv σ2 H4 fun y H5=>∃ H6,DPut H5 D k y H6/\P (i+1) H6 else P (i+1) H3)
  (hd:∀ H,P xs.length H->Q (.ref D) H):dcompTurns (ItB b K a) cap σ H1 D Q g tc tk tv:=by
 cases b
 ·exact dcomp_list P p0 hl hs hd
 ·exact dcomp_tup P p0 hl hs hd
theorem Same.seqB{H H':Hp}(s:Same H H')(h:SqB b K H a xs):SqB b K H' a xs:=by
 cases b
 ·exact s.seq h
 ·exact s.tupq h
theorem valV_no{κ:Type}[DecidableEq κ]{kvs:List (κ×V)}{k:κ}(h:k∉kvs.map (·.1)):valV kvs k=none:=by
 induction kvs with
 |nil=>rfl
 |cons q r ih =>
  rw[List.map_cons,List.mem_cons,not_or]at h
  exact(valV_neg fun e=>h.1 e.symm).trans (ih h.2)
end
open PySem PySem.W PyProof.Rows Srt
open PySem PySem.Spec PySem.W PyProof.Rows
open PySem PySem.Spec PySem.W PyProof.Rows
open PySem PySem.Spec PySem.W PyProof.Rows
open PySem PySem.Spec PySem.W PyProof.Rows
section
variable{X:Cx}{kx vx tg iter:Expr}{ifs:List Expr}{scope:Scope}{pos:Pos}{N':List Str}{cap:List (Option Nat)}{wi:TI}{g:TG}{tc:TT}{tk tv:TE}
theorem ps_dcomp{i:Nat}{x:Str}{pos' spos:Pos}(hN:X.N.Nodup)(hx:X.N[i]?=some x)(hl:Loc X.env.scope x)(t:Bool)(hu:X.A.units<cLine)(hc:X.calm=true)(S:CompScope N' cap X.N X.env.scope scope)(hi:PI X tg iter wi)(hg:∀ C s H fp,PG (cxIn X N' scope C s H fp) tg g)
  (ht:∀ C s H fp,PF (cxIn X N' scope C s H fp) ifs tc) (hk:∀ C s H fp,PE (cxIn X N' scope C s H fp) kx tk) (he:∀ C s H fp,PE (cxIn X N' scope C s H fp) vx tv)
  (hs:∀ x,foldedSetIterable iter X.env x=pure x:=by intro _;rfl) (hsw:swapsWith (.DictComp kx vx [⟨tg,iter,ifs,0⟩] scope pos) (some (.Name x pos')) spos.line X.env=pure true:=by rfl)
  (hf:X.fn x=true\/X.env.scope.names.lookup x=some .local:=by first | exact .inl rfl | exact .inr rfl | assumption) :
  PS X (.Assign [.Name x pos'] (.DictComp kx vx [⟨tg,iter,ifs,0⟩] scope pos) spos) (tAsg (tDComp t cap wi g tc tk tv) (gName i)):=by
 intro pins s σ H D I h
 rw[exec_Assign_Name_used _ _ _ _ hsw]
 refine wpAny_bind (wpAny_standAt (wpAny_bind ?_))
 show wpAny _ _ (do let _ <- comprehension (.DictComp kx vx [⟨tg,iter,ifs,0⟩] scope pos) scope X.env _ newDict false (eval iter X.env) (some (assign (.Name x pos') X.env))) _ _ s
 refine wpAny_bind (wpAny_mono (wpAny_comprehension_free (use:=some (assign (.Name x pos') X.env)) (Q:=fun _ s'=>SP X pins D .next s') rfl hs (closureFor_cells (S.clos I)) S.kind S.loc
  (thn (dcomp_run (pos:=pos) t hu hc S hi hg ht hk he I h) fun x s1 h1=>thn h1 fun it s2 h2=>thn h2 fun acc s3 h3=>thn h3 fun cenv s4 h4=>?_)) (fun _ s' hq=>wpAny_pure (wpAny_pure hq)) fun _ _ e=>e)
 refine codeAny_mono h4 fun r s' hr=>?_
 cases r with
 |error x=>exact hr.elim
 |ok f =>
  obtain⟨v,H',I',rv,q,⟨m,hn⟩,f0,f1,f2,f3,f4,f5⟩:=hr
  show wpAny _ _ (assign (.Name _ pos') X.env acc) _ _ _
  refine wpAny_assign_Name (store_ok2 I' hN hx hl rv (fun s'' I'' ⟨a,sb,ha⟩=>?_) hf)
  have hac:cenv.locals≠a:=by
   rcases ha with ha | ha
   ·rw[ha];exact f1
   ·exact Ne.symm (f4 _ a ha)
  refine⟨m,hn.sameBut sb hac,fun h' sb'=>⟨_,H',I''.turned (it:=cenv.locals) (t':=s''.toks) (fun b o hb e=>(sb'.2 b hb).trans e) f0 f1 f3 f4 f5,q⟩⟩
end
open PySem PySem.W PyProof.Rows Srt
theorem drawsK{prog:Program}{w:World}{A:Around}(hh:A.handled=none)(b:Bool)(it l:Addr)(hne:l≠it)(items:Array Value):Draws prog w A it [it,l] items.size (fun i v=>items[i]?=some v) (fun i h=>ItK b h it l i/\SeqK b h l items)where
 live:=fun _ _ st=>let ⟨o,ho,_⟩:=st.1.lt;⟨o,ho⟩
 frame:=fun _ _ _ st hk=>⟨st.1.to fun o e=>hk it (by simp) o e,st.2.to fun o e=>hk l (by simp) o e⟩
 item:=fun i s Q E hi st hQ=>nextK_item st.1 st.2 (x:=items[i]) (by simp[hi]) fun h' hit' hs'=>hQ _ h' s.toks (by simp[hi]) ⟨hit',st.2.to fun o e=>hs'.extBut _ _ hne e⟩ hs'
 done:=fun s Q E st hE=>nextK_end hh st.1 st.2 (by simp) hE
noncomputable abbrev enO(it:Addr):Obj:={ cls:=.type "enumerate",data:=.fields #[.none,.bool false,.ref it,rawInt 0,.none,.none] }
theorem enumK_new(b:Bool)(l:Addr)(xs:Array Value):Meets (Builtin.«enumerate.__new__» ⟨[.type "enumerate",.ref l],[]⟩) (fun _ R s=>SeqK b s.heap l xs/\R (.ok (.ret (.ref (s.heap.push (itO b l)).objs.size))) { s with heap:=(s.heap.push (itO b l)).push (enO s.heap.objs.size) }) :=
 .of_wp fun prog w A R s h=>by
  obtain⟨hp,g,d,tk,os⟩:=s
  obtain⟨hl,h⟩:=h
  have hsub:=sub_enumerate
  have hL:SeqK b (Shared.heap ⟨hp,g,d,tk,os⟩) l xs:=hl
  wp_walk using pyIterK hL
  refine wpAny_stack_any fun st=>wpAny_pure ?_
  split
  ·rename_i c _ _ _ _ _
   cases(c == Value.type "enumerate") <;> (wp_walk using pyIterK hL;exact⟨_,rfl,h⟩)
  ·wp_walk using pyIterK hL
   exact⟨_,rfl,h⟩
theorem call_enumK{prog:Program}{w:World}{A:Around}{E:Value->Shared->Prop}{s:Shared}{b:Bool}{l:Addr}{items:Array Value}{Q:Value->Shared->Prop}(hL:SeqK b s.heap l items)
  (h:∀ h',IsEnum h' (s.heap.objs.size+1) s.heap.objs.size 0 .none->ItK b h' s.heap.objs.size l 0->(∀ b o,s.heap.get? b=some o->h'.get? b=some o)->Q (.ref (s.heap.objs.size+1)) { s with heap:=h' }):wpAny (model prog w) A (call (.type "enumerate") [.ref l]) Q E s:=by
 refine callType_new F.called_enumerate (by decide) (F.typeCall_enumerate_1 _) (F.newCall_enumerate_1 _) (fun obj=>F.args_object_init_2 obj _) F.entry_enumerate_new (enumK_new b l items) ⟨hL,?_⟩
 have hz:(s.heap.push (itO b l)).objs.size=s.heap.objs.size+1:=Heap.size_push ..
 show _/\_
 rw[hz]
 have he:IsEnum ((s.heap.push (itO b l)).push (enO s.heap.objs.size)) (s.heap.objs.size+1) s.heap.objs.size 0 .none:=by
  have:=Heap.get?_push_size (s.heap.push (itO b l)) (o:=enO s.heap.objs.size) rfl
  rw[hz]at this
  exact this
 exact⟨⟨_,he,rfl⟩,h _ he ((ItK.new s.heap).to fun o e=>Heap.get?_push_of_some _ e) fun b o x=>Heap.get?_push_of_some _ (Heap.get?_push_of_some _ x)⟩
theorem enumK_end{prog:Program}{w:World}{A:Around}{E:Value->Shared->Prop}{s:Shared}{b:Bool}{e it l:Addr}{i:Nat}{items:Array Value}{old:Value}{Q:Option Value->Shared->Prop}(hh:A.handled=none)(he:IsEnum s.heap e it i old)(hit:ItK b s.heap it l i)(hl:SeqK b s.heap l items)(hx:items[i]?=none)
  (q:∀ g,Heap.ExtBut it s.heap g->Q none { s with heap:=g }):wpAny (model prog w) A (pyNext (.ref e)) Q E s:=by
 have ty:s.TypeIs (.ref e) "enumerate":=⟨_,he,rfl⟩
 unfold pyNext;refine wpAny_bind (wpAny_attempt (wpAny_callSpecial?_slot (name:=Str.ofString "__next__") ty F.slot_enumerate_next (wpAny_call_entry F.slot_enumerate_next ty F.entry_enumerate_next ?_ (F.args_enumerate_next_1 _))))
 show wpAny _ _ (field (.ref e) 2 >>= _) _ _ _;refine wpAny_bind (wpAny_field he rfl (x:=.ref it) rfl (wpAny_bind (nextK_end hh hit hl hx fun g y hg hy=>?_)))
 obtain⟨o,ho,hc⟩:=hy
 refine wpAny_bind (wpAny_isInstance (T:="StopIteration") (b:=true) ⟨o,ho,hc⟩ isSubtype_stop (wpAny_pure (q _ hg)))
noncomputable def IteB(b:Bool)(K:PySem.W.Frag)(l:Addr):It :=
  ⟨fun i H=>∃ xs x,SqB b K H l xs/\xs[i]?=some x,
   fun i H v H'=>∃ T x,v = .ref T/\H T=none/\H'=upd H T (.tup [.int i,x])/\∀ xs,SqB b K H l xs->xs[i]?=some x,
   fun i H=>∃ xs,SqB b K H l xs/\xs.length<=i⟩
theorem turn_enumB(b:Bool){P:Program}{w:World}{K:PySem.W.Frag}{es:List Expr}{kk:Nat}{pos:Pos}(e it l:Addr)(ne:e≠it):Turn P w K (.Tuple es kk pos) (IteB b K l) [e,it] e
  (fun i h=>(∃ old,IsEnum h e it i old)/\ItK b h it l i)where
 mem:=by simp
 obj:=fun i h st b hb=>by
  obtain⟨⟨old,he⟩,h1⟩:=st
  simp only[List.mem_cons,or_false,List.not_mem_nil]at hb
  rcases hb with z | z
  ·rw[z];exact⟨_,he,fun v z=>by cases z⟩
  ·rw[z]
   exact h1.lt
 keep:=fun i h h' st k=>by
  obtain⟨⟨old,he⟩,h1⟩:=st
  exact⟨⟨old,k e (by simp) _ he⟩,h1.to fun o e=>k it (by simp) o e⟩
 item:=by
  intro X hP hw hK hc i pins s σ H E I hf st hg
  subst hP hw hK
  obtain⟨⟨old,he⟩,h1⟩:=st
  obtain⟨xs,x,q1,hx⟩:=hg
  obtain⟨us,r1,p1,_⟩:=I.seqB q1
  obtain⟨u,hu,ru⟩:=r1.get hx
  have hn:H s.heap.objs.size=none:=I.hok.fresh (Nat.le_refl _)
  have lit:l≠it:=I.offB q1 (hf it (by simp))
  have lee:l≠e:=I.offB q1 (hf e (by simp))
  have hlt:i<us.toArray.size:=by rw[List.size_toArray];exact(List.getElem?_eq_some_iff.mp hu).1
  refine wpAny_pyNext_enum_itemD (drawsK (A:=X.A.in1) (I.ok.hd hc) b it l lit us.toArray) he ⟨h1,p1⟩ hlt ne (by simp[ne,Ne.symm lee]) fun u' g tk hP e1 st1 t1 sz kp=>⟨_,rfl,?_⟩
  have eu:u'=u:=by
   have hP:us.toArray[i]?=some u':=hP
   rw[List.getElem?_toArray,hu]at hP
   exact(Option.some.inj hP).symm
  subst eu
  have n1:=st1.1
  refine wpAny_letOwnedTupleGo_enum e1 fun g' e2 sb=>?_
  have zlt:e≠s.heap.objs.size:=Nat.ne_of_lt (Heap.lt_size he)
  have kp2:∀ b o,b∉[e,it]->s.heap.get? b=some o->g'.get? b=some o:=fun b o nb z=>by
   simp only[List.mem_cons,List.not_mem_nil,or_false,not_or]at nb
   exact sb.extBut _ _ nb.1 (kp b o nb.1 nb.2 z)
  have I2:Inv X pins σ (upd H s.heap.objs.size (.tup [.int i,x])) { s with heap:=g',toks:=tk+1 }:=I.turnedN (t':=tk+1) (ch:=[e,it]) (a:=s.heap.objs.size) (ob:=.tup [.int i,x]) hf kp2 (Nat.le_refl _) (show ObjOk X.prog X.w _ g' _ (.tup [.int i,x])from⟨by show 2<=sizeLine;decide,[.int i tk,u'],.cons ⟨_,rfl⟩ (.cons ru .nil),⟨_,sb.extBut _ _ (Ne.symm zlt) t1,rfl,0,rfl⟩⟩)
  refine⟨.ref s.heap.objs.size,_,I2,rfl,⟨_,x,rfl,hn,rfl,fun xs' h=>by rw[I.seqB_inj h q1];exact hx⟩,⟨⟨_,by have e3:=e2;exact_mod_cast e3⟩,n1.to fun o z=>sb.extBut _ _ (Ne.symm ne) z⟩,fun b hb=>?_⟩
  have bo:∃ o,s.heap.get? b=some o:=by
   simp only[List.mem_cons,or_false,List.not_mem_nil]at hb
   rcases hb with z | z
   ·rw[z];exact⟨_,he⟩
   ·rw[z];obtain⟨o,e,_⟩:=h1.lt;exact⟨o,e⟩
  obtain⟨o,z⟩:=bo
  rw[upd_ne (Nat.ne_of_lt (Heap.lt_size z))]
  exact(hf b hb).1
 done:=by
  intro X hP hw hK hc i pins s σ H E I hf st hg
  subst hP hw hK
  obtain⟨⟨old,he⟩,h1⟩:=st
  obtain⟨xs,q1,le⟩:=hg
  obtain⟨us,r1,p1,_⟩:=I.seqB q1
  have e1:=r1.length
  refine enumK_end (I.ok.hd hc) he h1 p1 (by simp;lia) fun g kp=>⟨rfl,?_⟩
  refine I.turnedL (t':=s.toks) (ch:=[e,it]) hf fun b o nb z=>?_
  simp only[List.mem_cons,List.not_mem_nil,or_false,not_or]at nb
  exact kp b o nb.2 z
 self:=fun _ _ _ _ _ st h=>by
  obtain⟨⟨old,he⟩,h1⟩:=st
  exact wpAny_pyIter_enum he h
noncomputable def iEnumB(b:Bool)(K:PySem.W.Frag)(ta:TA):TI:=fun σ H R=>ta σ H fun vs H1=>∃ l,vs=[.ref l]/\(∃ xs,SqB b K H1 l xs)/\R (IteB b K l) H1
theorem pi_enumB(b:Bool){X:Cx}{es:List Expr}{kk:Nat}{tpos:Pos}{a:Expr}{ta:TA}{p pos:Pos}(hg:Gl X "enumerate")(hm:X.mg "enumerate" = none)(ha:PA X [a] ta)(hs:starEach [a] X.env=[(false,eval a X.env)]:=by rfl) :
  PI X (.Tuple es kk tpos) (.Call (.Name "enumerate" p) [a] [] pos) (iEnumB b X.K ta):=by
 intro pins s σ H R I h
 refine Call_ (ld_blt I hg hm boot_enumerate (PyProof.Rows.callWith_type1 (thn (ha pos pins s σ H _ I h) fun us s1 ⟨vs,H1,I1,r1,q1⟩=>?_) (by rw[hs];rfl) (by rfl)))
 obtain⟨l,e,⟨xs,q1⟩,q⟩:=q1
 subst e
 obtain⟨u,rfl,rx⟩:=Vals.one r1
 cases rx
 obtain⟨us,_,p1,_⟩:=I1.seqB q1
 refine call_enumK p1 fun g' e1 h1 kp=>?_
 refine wpAny_pyIter_enum e1 ⟨s1.heap.objs.size+1,_,_,_,H1,rfl,I1.kept (t':=s1.toks) kp,turn_enumB b _ s1.heap.objs.size l (Nat.ne_of_gt (Nat.lt_succ_self _)),⟨⟨_,e1⟩,h1⟩,fun b hb=>?_,q⟩
 have le:s1.heap.objs.size<=b:=by
  simp only[List.mem_cons,or_false,List.not_mem_nil]at hb
  rcases hb with e | e
  ·rw[e];exact Nat.le_add_right _ 1
  ·rw[e];exact Nat.le_refl _
 exact I1.fpOk le (I1.hok.fresh le)
end L2
namespace Srt
open PySem PySem.W PyProof.Rows
@[reducible] noncomputable def κI:KeyKind where
 α:=Int
 blt a b:=decide (a<b)
 irrefl a:=by simp
 trans a b c h k:=by simp at h k ⊢;lia
 negTrans a b c h:=by simp at h ⊢;lia
 total a b h k:=by simp at h k;lia
 keyOf v:=match v with
  | .int i _=>some i
  | _=>none
 dflt:=(0:Int)
theorem κI_of{v:Value}{i:Int}(h:κI.keyOf v=some i):∃ t,v = .int i t:=by
 cases v with
 |int j t =>
  have e:j=i:=Option.some.inj h
  subst e
  exact⟨t,rfl⟩
 | _=>cases h
theorem ltI_ok{prog:Program}{w:World}{A:Around}{s:Shared}:LtOk κI oneType' prog w A s:=by
 intro E x y a b Q st hk ha hb q
 obtain⟨t,e1⟩:=κI_of ha
 obtain⟨u,e2⟩:=κI_of hb
 rw[lt'_eq]
 refine wpS_bind (wpS_get ?_)
 rw[hk,keyLt'_oneType,e1,e2]
 refine wpS_bind (wpS_lift (wpAny_attempt (oneLt_int ⟨rfl,?_⟩)))
 exact wpS_pure q
end Srt
namespace L2
open PySem PySem.W PyProof.Rows Srt
section
variable{X:Cx}{pins:List (Addr×Obj)}{σ:St}{H:Hp}{s:Shared}
theorem collect_kept{g:Heap}{vs:List Value}:∀ b u,g.get? b=some u->((g.push (seqObj "list" #[] 0)).update g.objs.size (Obj.mapSeq (·++vs.toArray))).get? b=some u:=fun b u e=>by
 rw[Heap.get?_update_ne _ _ _ _ (Nat.ne_of_lt (Heap.lt_size e))]
 exact Heap.get?_push_of_some _ e
theorem call_sortedT:CallR X (.builtin "sorted") (fun xs H Q=>∃ l as ks,xs=[V.ref l]/\SqL X.K H l (List.map V.ref as)/\TupsAt H as ks/\(∀ k∈ks,k≠[])/\as.length<64 /\
  ∀ (l':Addr) (bs:List Addr) (ns:List (List Int)),H l'=none->ns.Perm ks->ns.Pairwise (fun x y=>lexlt y x=false)->TupsAt H bs ns->Q (.ref l') (upd H l' (.lst (bs.map V.ref)))):=by
 intro pins s σ H xs us Q I r h
 obtain⟨l,as,ks,rfl,hq,ht,hne,hlen,q⟩:=h
 obtain⟨u,rfl,rx⟩:=vals1 r
 cases rx
 obtain⟨its,r',pl,hz⟩:=I.list hq
 have er:=refs_of r'
 subst er
 refine Calls.call_function_entry kind_sorted plain_sorted entry_sorted (args_sorted1 _) ?_
 unfold Builtin.«sorted»
 refine wpAny_bind (m:=checkCount "sorted" 1 1 _) (wpAny_pure (wpAny_bind (collect_list pl.isList ?_ (by rw[List.length_map,sizeLine_eq];lia))))
 generalize hh':(s.heap.push (seqObj "list" #[] 0)).update s.heap.objs.size (Obj.mapSeq (·++(as.map Value.ref).toArray))=h'
 have kp:∀ b u,s.heap.get? b=some u->h'.get? b=some u:=hh'▸collect_kept
 refine wpAny_bind (wpAny_newList ?_ (by rw[List.length_map,sizeLine_eq];lia))
 have gL:(h'.push (seqObj "list" (as.map Value.ref).toArray 0)).get? h'.objs.size=some (seqObj "list" (as.map Value.ref).toArray 0):=Heap.get?_push_size _ rfl
 have I1:Inv X pins σ H { s with heap:=h' }:=I.kept (t':=s.toks) kp
 have kp2:∀ b u,h'.get? b=some u->(h'.push (seqObj "list" (as.map Value.ref).toArray 0)).get? b=some u:=fun b u e=>Heap.get?_push_of_some _ e
 have zipne:∀ {as:List Addr}{ks:List (List Int)},TupsAt H as ks->(∀ k∈ks,k≠[])->Paired (fun a k=>H a=some (.tup (List.map V.int k))/\k≠[]) as ks:=by
  intro as ks h
  induction h with
  |nil=>intro _;exact .nil
  |cons r _ ih=>intro hn;exact .cons ⟨r,hn _ (List.mem_cons_self ..)⟩ (ih fun k hk=>hn k (List.mem_cons_of_mem _ hk))
 have tT:Paired (fun a k=>TupI (h'.push (seqObj "list" (as.map Value.ref).toArray 0)) (.ref a) k/\k≠[]) as ks:=Paired.mapP (zipne ht hne) fun a k z=>⟨(tupI_of I1 z.1).to fun b u _ e=>kp2 b u e,z.2⟩
 have memH:=tups_mem ht
 refine wpAny_bind (wpAny_holding (wpAny_call_entry slot_list_sort ⟨_,gL,rfl⟩ entry_list_sort (sort_new (X:=X) (s:={ s with heap:=h'.push (seqObj "list" (as.map Value.ref).toArray 0) }) gL tT hlen fun bs ns g c pb pn pw pt kp3 gg=>⟨_,rfl,?_⟩) (args_list_sort _)))
 refine wpAny_pure ⟨_,rfl,.ref h'.objs.size,_,I1.laid (t':=s.toks) (a:=h'.objs.size) (o:=.lst (bs.map V.ref)) (fun b u e=>kp3 b u (Nat.ne_of_lt (Heap.lt_size e)) (kp2 b u e)) (Nat.le_refl _) (show ObjOk X.prog X.w _ g _ (.lst (bs.map V.ref))from⟨?_,bs.map Value.ref,c,?_,gg⟩),rfl,q _ bs ns (I1.hok.fresh (Nat.le_refl _)) pn pw ?_⟩
 ·rw[List.length_map,pb.length_eq,sizeLine_eq];lia
 ·clear pb pt gg
  induction bs with
  |nil=>exact .nil
  |cons b bs ih=>exact .cons rfl ih
 ·have memB:∀ a∈bs,∃ k:List Int,H a=some (.tup (k.map V.int)):=fun a ha=>memH a (pb.mem_iff.mp ha)
  clear pb gg pn pw
  induction pt with
  |nil=>exact .nil
  | @cons a k l1 l2 r1 _ ih =>
   refine .cons ?_ (ih fun a ha=>memB a (List.mem_cons_of_mem _ ha))
   obtain⟨k',e⟩:=memB a (List.mem_cons_self ..)
   rw[e,r1.inj ((tupI_of I1 e).to fun b u _ z=>kp2 b u z)]
theorem ints_perm:∀ {ws vs:List Value}{ns:List Int},ws.Perm vs->Vals (ns.map V.int) vs->∃ ms:List Int,Vals (ms.map V.int) ws/\ms.Perm ns:=by
 intro ws vs ns hp r
 have hI:=intsAre_of r
 have all:∀ v∈vs,∃ i t,v=Value.int i t:=by
  intro v hv
  obtain⟨j,hj,e⟩:=List.getElem_of_mem hv
  have l:=r.length
  rw[List.length_map]at l
  obtain⟨u,e2,t,e3⟩:=r.get (i:=j) (x:=V.int (ns[j]'(by lia))) (by rw[List.getElem?_map,List.getElem?_eq_getElem (by lia)];rfl)
  rw[List.getElem?_eq_getElem hj,e]at e2
  cases e2
  exact⟨_,t,e3⟩
 let f:Value->Int:=fun v=>match v with
  | .int i _=>i
  | _=>0
 have key:∀ {us:List Value}{ks:List Int},Vals (ks.map V.int) us->us.map f=ks:=by
  intro us
  induction us with
  |nil=>intro ks r;cases ks with
   |nil=>rfl
   |cons _ _=>cases r
  |cons u us ih=>intro ks r;cases ks with
   |nil=>cases r
   |cons k ks =>
    cases r with
    |cons r1 r2 =>
     obtain⟨t,e⟩:=r1
     rw[List.map_cons,ih r2,e]
 refine⟨ws.map f,?_,?_⟩
 ·have all':∀ v∈ws,∃ i t,v=Value.int i t:=fun v hv=>all v (hp.mem_iff.mp hv)
  clear hp
  induction ws with
  |nil=>exact .nil
  |cons w ws ih =>
   obtain⟨i,t,e⟩:=all' w (List.mem_cons_self ..)
   refine .cons ⟨t,by rw[e]⟩ (ih fun v hv=>all' v (List.mem_cons_of_mem _ hv))
 ·rw[<- key r]
  exact hp.map f
theorem call_sortedI:CallR X (.builtin "sorted") (fun xs H Q=>∃ (l:Addr) (ns:List Int),xs=[V.ref l]/\SqL X.K H l (ns.map V.int)/\ns.length<64 /\
  ∀ (l':Addr) (ms:List Int),H l'=none->ms.Perm ns->ms.Pairwise (·<=·)->Q (.ref l') (upd H l' (.lst (ms.map V.int)))):=by
 intro pins s σ H xs us Q I r h
 obtain⟨l,ns,rfl,hq,hlen,q⟩:=h
 obtain⟨u,rfl,rx⟩:=vals1 r
 cases rx
 obtain⟨its,r',pl,hz⟩:=I.list hq
 have li:=r'.length
 rw[List.length_map]at li
 refine Calls.call_function_entry kind_sorted plain_sorted entry_sorted (args_sorted1 _) ?_
 unfold Builtin.«sorted»
 refine wpAny_bind (m:=checkCount "sorted" 1 1 _) (wpAny_pure (wpAny_bind (collect_list pl.isList ?_ (by rw[sizeLine_eq];lia))))
 generalize hh':(s.heap.push (seqObj "list" #[] 0)).update s.heap.objs.size (Obj.mapSeq (·++its.toArray))=h'
 have kp:∀ b u,s.heap.get? b=some u->h'.get? b=some u:=hh'▸collect_kept
 refine wpAny_bind (wpAny_newList ?_ (by rw[sizeLine_eq];lia))
 have gL:(h'.push (seqObj "list" its.toArray 0)).get? h'.objs.size=some (seqObj "list" its.toArray 0):=Heap.get?_push_size _ rfl
 have I1:Inv X pins σ H { s with heap:=h' }:=I.kept (t':=s.toks) kp
 have kp2:∀ b u,h'.get? b=some u->(h'.push (seqObj "list" its.toArray 0)).get? b=some u:=fun b u e=>Heap.get?_push_of_some _ e
 have hI:=intsAre_of r'
 have keys:KeysOf κI (pairsOf its):=fun p hp=>by
  rw[pairsOf_toList]at hp
  obtain⟨e1,e2⟩:=Srt.mem_zip_self hp
  obtain⟨j,hj,e⟩:=List.getElem_of_mem e2
  obtain⟨u,g1,t,g2⟩:=r'.get (i:=j) (x:=V.int (ns[j]'(by lia))) (by rw[List.getElem?_map,List.getElem?_eq_getElem (by lia)];rfl)
  rw[List.getElem?_eq_getElem hj,e]at g1
  cases g1
  rw[e1,g2]
  exact⟨_,rfl⟩
 refine wpAny_bind (wpAny_holding (wpAny_call_entry slot_list_sort ⟨_,gL,rfl⟩ entry_list_sort (sort_at (κ:=κI) (kd:=oneType') gL keys (by lia) (fun l2 g k=>⟨ltI_ok,fun R hR=>?_⟩) fun ws g c pw sw kp3 gg=>⟨_,rfl,?_⟩) (args_list_sort _)))
 ·match its,hI,l2 with
  |v1 :: v2 :: rest,hI,_ =>
   rw[keyKind_ints hI]
   exact wpAny_pure hR
  |[],_,l2=>simp at l2
  |[_],_,l2=>simp at l2
 ·obtain⟨ms,rm,pm⟩:=ints_perm pw r'
  have lw:=rm.length
  rw[List.length_map]at lw
  refine wpAny_pure ⟨_,rfl,.ref h'.objs.size,_,I1.laid (t':=s.toks) (a:=h'.objs.size) (o:=.lst (ms.map V.int)) (fun b u e=>kp3 b u (Nat.ne_of_lt (Heap.lt_size e)) (kp2 b u e)) (Nat.le_refl _) (show ObjOk X.prog X.w _ g _ (.lst (ms.map V.int))from⟨?_,ws,c,rm,gg⟩),rfl,q _ ms (I1.hok.fresh (Nat.le_refl _)) pm ?_⟩
  ·rw[List.length_map,pm.length_eq,sizeLine_eq];lia
  ·rw[List.pairwise_iff_getElem]
   intro i j hi hj ij
   have z:=sw i j (Nat.le_of_lt ij) (by lia)
   have kk:∀ m (hm:m<ms.length),KK κI (pairsOf ws) m=ms[m]:=fun m hm=>by
    obtain⟨u,g1,t,g2⟩:=rm.get (i:=m) (x:=V.int ms[m]) (by rw[List.getElem?_map,List.getElem?_eq_getElem hm];rfl)
    have e:(pairsOf ws)[m]?=some (u,u):=by
     have hm':m<ws.length:=by lia
     have:ws[m]=u:=by rw[List.getElem?_eq_getElem hm']at g1;exact Option.some.inj g1
     simp[pairsOf,hm',this]
    unfold KK
    rw[e,g2]
    rfl
   rw[kk i hi,kk j hj]at z
   have z':decide (ms[j]<ms[i])=false:=z
   have:=of_decide_eq_false z'
   lia
end
open PySem PySem.W PyProof.Rows
section
variable{X:Cx}
theorem best_of{ns:List Int}{ys:Array (Int×Tok)}(e1:ns=ys.toList.map (·.1))(hs:0<ys.size){v:Value}(hv:(intItems ys)[argBest (fun i j=>decide (numAt ys i > numAt ys j)) (ys.size-1)]?=some v) :
  ∃ (m:Int) (t:Tok),v = .int m t/\m∈ns/\∀ a∈ns,a<=m:=by
 obtain⟨tk,rfl⟩:=intItems_at hv
 have best:=argBest_gt (numAt ys) (ys.size-1)
 have len:(ys.toList.map (·.1)).length=ys.size:=by simp
 refine⟨_,tk,rfl,?_,fun a ha=>?_⟩
 ·have:=best.1
  rw[numAt_eq,e1]
  exact getD_mem (by omega)
 ·subst e1
  obtain⟨i,hi,z⟩:=mem_getD ha
  have top:=best.2 i (by lia)
  rw[numAt_eq ys i,z]at top
  exact top
theorem call_maxL(hc:X.calm=true):CallR X (.builtin "max") (fun xs H Q=>∃ (l:Addr) (ns:List Int),xs=[V.ref l]/\SqL X.K H l (ns.map V.int)/\ns≠[]/\∀ m:Int,m∈ns->(∀ a∈ns,a<=m)->Q (.int m) H):=by
 intro pins s σ H xs us Q I r h
 obtain⟨l,ns,rfl,hq,hne,q⟩:=h
 obtain⟨u,rfl,rx⟩:=vals1 r
 cases rx
 obtain⟨its,r',pl,hz⟩:=I.list hq
 have hi:=intsAre_of r'
 obtain⟨ys,hx⟩:=hi.allInts.items
 have e1:ns=ys.toList.map (·.1):=by
  rw[<- nums_intItems,<- hx]
  exact(show numsOf its.toArray.toList=ns from hi.numsOf).symm
 have hs:0<ys.size:=by
  have:=List.length_pos_iff.mpr hne
  rw[e1,List.length_map,Array.length_toList]at this
  exact this
 refine max_intList (I.ok.hd hc) (hx▸pl.isList) hs fun v h' tk hv hk=>?_
 obtain⟨m,t,rfl,hm,hb⟩:=best_of e1 hs hv
 exact⟨.int m,H,I.kept hk,⟨t,rfl⟩,q m hm hb⟩
end
open PySem PySem.W PyProof.Rows Srt
theorem keys_of_pairs{P:Program}{w:World}{es:List DictEntry}{kvs:List (Key×V)}{vs:List (Key×Value)}(h:Pairs (mixKind P w) es vs)(r:KV kvs vs):Vals (kvs.map fun kv=>kV kv.1) (es.map fun r=>r.key):=by
 induction h generalizing kvs with
 |nil=>cases r;exact .nil
 | @cons e q es vs h1 h2 h3 ih =>
  cases r with
  | @cons kv _ kvs _ r1 r2 =>
   refine .cons ?_ (ih r2)
   show RelV (kV kv.1) e.key
   rw[r1.1]
   have h1:keyIs q.1 e.key=true:=h1
   rcases keyIs_shape h1 with⟨i,t,e1,e2⟩ |⟨x,t,e1,e2⟩
   ·rw[e1,e2];exact⟨t,rfl⟩
   ·rw[e1,e2];exact⟨t,rfl⟩
theorem raw_of{P:Program}{w:World}{h:Heap}{d:Addr}{kvs:List (Key×V)}{vs:List (Key×Value)}(r:KV kvs vs)(m:h.DictOf (mixKind P w) d vs):∃ o ep us,h.get? d=some o/\(∀ g:Heap,g.get? d=some o->RawD d us ep g)/\Vals (kvs.map fun kv=>kV kv.1) us:=by
 obtain⟨o,es,ep,e,x,dt,_,ps,_⟩:=m
 exact⟨o,ep,_,e,fun g eg=>⟨o,es,eg,x,dt,rfl⟩,keys_of_pairs ps r⟩
noncomputable def Itk(d:Addr)(o:Obj)(kvs:List (Key×V)):It:=⟨fun i H=>H d=some (.frz o (.dK kvs))/\i<kvs.length,fun i H x H'=>H'=H/\∃ kv,kvs[i]?=some kv/\x=kV kv.1,fun i H=>H d=some (.frz o (.dK kvs))/\kvs.length<=i⟩
theorem turn_dk{P:Program}{w:World}{K:PySem.W.Frag}{tg:Expr}{d it:Addr}{o:Obj}{kvs:List (Key×V)}{us:List Value}{ep:Nat}(raw:∀ g:Heap,g.get? d=some o->RawD d us ep g)(rv:Vals (kvs.map fun kv=>kV kv.1) us) :
  Turn P w K tg (Itk d o kvs) [it] it (fun i h=>h.IsKeyIter it d i us.length ep)where
 mem:=by simp
 obj:=fun i h st b hb=>by
  have e:b=it:=by simpa using hb
  subst e
  obtain⟨o,e,c,d⟩:=st
  exact⟨o,e,fun v z=>by rw[d]at z;cases z⟩
 keep:=fun i h h' st k=>by
  obtain⟨o,e,r⟩:=st
  exact⟨o,k it (by simp) o e,r⟩
 item:=by
  intro X hP hw hK hc i pins s σ H E I hf st hg
  subst hP hw hK
  obtain⟨hd,hi⟩:=hg
  have ho:s.heap.get? d=some o:=(I.hok d _ hd).1
  obtain⟨u,hu,ru⟩:=rv.get (i:=i) (x:=kV kvs[i].1) (by rw[List.getElem?_map,List.getElem?_eq_getElem hi];rfl)
  obtain⟨f0,f1,f2,f3,f4,f5⟩:=hf it (by simp)
  refine rawItem st (raw _ ho) hu fun h' st' sb=>?_
  have I1:Inv X pins σ H { s with heap:=h' }:=I.turned (t':=s.toks) (fun b o hb e=>(sb.2 b hb).trans e) f0 f1 f3 f4 f5
  obtain⟨o',e,c,dd⟩:=id st'
  exact⟨u,rfl,go_of (s:={ s with heap:=h' }) e c dd (by decide) ⟨_,H,I1,ru,⟨rfl,kvs[i],List.getElem?_eq_getElem hi,rfl⟩,st',fun b hb=>(hf b hb).1⟩⟩
 done:=by
  intro X hP hw hK hc i pins s σ H E I hf st hg
  subst hP hw hK
  obtain⟨hd,hi⟩:=hg
  have ho:s.heap.get? d=some o:=(I.hok d _ hd).1
  obtain⟨f0,f1,f2,f3,f4,f5⟩:=hf it (by simp)
  have hl:=rv.length
  rw[List.length_map]at hl
  exact rawEnd (I.ok.hd hc) st (raw _ ho) (by lia) fun h' eb=>⟨rfl,I.turned (t':=s.toks) (fun b o hb e=>eb b o hb e) f0 f1 f3 f4 f5⟩
 self:=fun _ _ _ _ _ st h=>wpAny_pyIter_keyiter st h
noncomputable def iDk(tl:TE):TI:=fun σ H R=>tl σ H fun x H1=>∃ d kvs,x = .ref d/\H1 d=some (.dK kvs)/\∀ o,R (Itk d o kvs) (upd H1 d (.frz o (.dK kvs)))
section
variable{X:Cx}
theorem pi_dk{tg l:Expr}{tl:TE}(hl:PE X l tl):PI X tg l (iDk tl):=by
 intro pins s σ H R I h
 refine thn (hl pins s σ H _ I h) fun v s1 ⟨x,H1,I1,r1,q1⟩=>?_
 obtain⟨d,kvs,e,hd,q⟩:=q1
 subst e
 cases r1
 obtain⟨hz,nsys,vs,rv,m⟩:=dk_of I1.hok hd
 obtain⟨o,ep,us,ho,raw,vals⟩:=raw_of rv m
 have I2:Inv X pins σ (upd H1 d (.frz o (.dK kvs))) s1:=d_write (t':=s1.toks) (h':=s1.heap) I1 (by rw[hd];exact True.intro) ⟨rfl,fun _ _=>rfl⟩ ⟨o,ho⟩ (show ObjOk X.prog X.w _ s1.heap d (.frz o (.dK kvs))from⟨ho,hz,nsys,vs,rv,m⟩)
 refine rawIter nsys (raw _ ho) ?_
 refine⟨s1.heap.objs.size,[s1.heap.objs.size],_,_,_,rfl,I2.kept (t':=s1.toks) fun b o e=>Heap.get?_push_of_some _ e,turn_dk raw vals,⟨_,Heap.get?_push_size _ rfl,rfl,rfl⟩,fun b hb=>?_,q o⟩
 have e:b=s1.heap.objs.size:=by simpa using hb
 subst e
 exact I2.fpOk (Nat.le_refl _) (I2.hok.fresh (Nat.le_refl _))
theorem least_at{ns:List Int}{ys:Array (Int×Tok)}(e1:ns=ys.toList.map (·.1))(hs:0<ys.size){v:Value}(hv:(intItems ys)[argBest (fun i j=>decide (numAt ys i<numAt ys j)) (ys.size-1)]?=some v) :
  ∃ (m:Int) (t:Tok),v = .int m t/\m∈ns/\∀ a∈ns,m<=a:=by
 obtain⟨tk,rfl⟩:=intItems_at hv
 have best:=argBest_lt (numAt ys) (ys.size-1)
 have len:(ys.toList.map (·.1)).length=ys.size:=by simp
 refine⟨_,tk,rfl,?_,fun a ha=>?_⟩
 ·have:=best.1
  rw[numAt_eq,e1]
  exact getD_mem (by omega)
 ·subst e1
  obtain⟨i,hi,z⟩:=mem_getD ha
  have top:=best.2 i (by lia)
  rw[numAt_eq ys i,z]at top
  exact top
theorem call_minL(hc:X.calm=true):CallR X (.builtin "min") (fun xs H Q=>∃ (l:Addr) (ns:List Int),xs=[V.ref l]/\SqL X.K H l (ns.map V.int)/\ns≠[]/\∀ m:Int,m∈ns->(∀ a∈ns,m<=a)->Q (.int m) H):=by
 intro pins s σ H xs us Q I r h
 obtain⟨l,ns,rfl,hq,hne,q⟩:=h
 obtain⟨u,rfl,rx⟩:=vals1 r
 cases rx
 obtain⟨its,r',pl,hz⟩:=I.list hq
 have hi:=intsAre_of r'
 obtain⟨ys,hx⟩:=hi.allInts.items
 have e1:ns=ys.toList.map (·.1):=by
  rw[<- nums_intItems,<- hx]
  exact(show numsOf its.toArray.toList=ns from hi.numsOf).symm
 have hs:0<ys.size:=by
  have:=List.length_pos_iff.mpr hne
  rw[e1,List.length_map,Array.length_toList]at this
  exact this
 refine min_intList (I.ok.hd hc) (hx▸pl.isList) hs fun v h' tk hv hk=>?_
 obtain⟨m,t,rfl,hm,hb⟩:=least_at e1 hs hv
 exact⟨.int m,H,I.kept hk,⟨t,rfl⟩,q m hm hb⟩
end
section
variable{X:Cx}
theorem call_sortedK(hc:X.calm=true):CallR X (.builtin "sorted") (fun xs H Q=>∃ (d:Addr) (kvs:List (Key×V)) (ns:List Int),xs=[V.ref d]/\H d=some (.dK kvs)/\kvs.map (·.1)=ns.map Sum.inl/\ns.length<64 /\
  ∀ (l':Addr) (ms:List Int),H l'=none->ms.Perm ns->ms.Pairwise (·<=·)->Q (.ref l') (upd H l' (.lst (ms.map V.int)))):=by
 intro pins s0 σ H xs us0 Q I0 r h
 obtain⟨d,kvs,ns,rfl,hd,hk,hlen,q⟩:=h
 obtain⟨u,rfl,rx⟩:=vals1 r
 cases rx
 obtain⟨hz,nsys,vs,rv,m⟩:=dk_of I0.hok hd
 obtain⟨o,ep,its,ho,raw,vals⟩:=raw_of rv m
 have ev:(kvs.map fun kv=>kV kv.1)=ns.map V.int:=by
  have:=congrArg (List.map kV) hk
  rw[List.map_map,List.map_map]at this
  exact this
 rw[ev]at vals
 have r':=vals
 have li:=r'.length
 rw[List.length_map]at li
 refine Calls.call_function_entry kind_sorted plain_sorted entry_sorted (args_sorted1 _) ?_
 unfold Builtin.«sorted»
 refine wpAny_bind (m:=checkCount "sorted" 1 1 _) (wpAny_pure (wpAny_bind (kdu_collect (A:=X.A.in1) (rawSrc nsys) (show X.A.handled=none from I0.ok.hd hc) (raw _ ho) (by rw[sizeLine_eq];lia) fun h' tk acc kp hacc=>?_)))
 have eacc:acc.toList=its:=by
  apply List.ext_getElem?
  intro i
  by_cases hi:i<acc.size
  ·have e1:acc.toList[i]?=some acc[i]:=by rw[Array.getElem?_toList,Array.getElem?_eq_getElem hi]
   have e2:=hacc.2 i acc[i] (Array.getElem?_eq_getElem hi)
   rw[e1]
   exact e2.symm
  ·have l0:=hacc.1
   rw[List.getElem?_eq_none (by rw[Array.length_toList];lia),List.getElem?_eq_none (by lia)]
 rw[eacc]
 generalize hs:({ s0 with heap:=h',toks:=tk }:Shared)=s
 have es:s.heap=h':=by rw[<- hs]
 refine wpAny_bind (wpAny_newList ?_ (by rw[sizeLine_eq];lia))
 subst hs
 have gL:(h'.push (seqObj "list" its.toArray 0)).get? h'.objs.size=some (seqObj "list" its.toArray 0):=Heap.get?_push_size _ rfl
 have I1:Inv X pins σ H { s0 with heap:=h',toks:=tk }:=I0.kept kp
 have kp2:∀ b u,h'.get? b=some u->(h'.push (seqObj "list" its.toArray 0)).get? b=some u:=fun b u e=>Heap.get?_push_of_some _ e
 have hI:=intsAre_of r'
 have keys:KeysOf κI (pairsOf its):=fun p hp=>by
  rw[pairsOf_toList]at hp
  obtain⟨e1,e2⟩:=Srt.mem_zip_self hp
  obtain⟨j,hj,e⟩:=List.getElem_of_mem e2
  obtain⟨u,g1,t,g2⟩:=r'.get (i:=j) (x:=V.int (ns[j]'(by lia))) (by rw[List.getElem?_map,List.getElem?_eq_getElem (by lia)];rfl)
  rw[List.getElem?_eq_getElem hj,e]at g1
  cases g1
  rw[e1,g2]
  exact⟨_,rfl⟩
 refine wpAny_bind (wpAny_holding (wpAny_call_entry slot_list_sort ⟨_,gL,rfl⟩ entry_list_sort (sort_at (κ:=κI) (kd:=oneType') gL keys (by lia) (fun l2 g k=>⟨ltI_ok,fun R hR=>?_⟩) fun ws g c pw sw kp3 gg=>⟨_,rfl,?_⟩) (args_list_sort _)))
 ·match its,hI,l2 with
  |v1 :: v2 :: rest,hI,_ =>
   rw[keyKind_ints hI]
   exact wpAny_pure hR
  |[],_,l2=>simp at l2
  |[_],_,l2=>simp at l2
 ·obtain⟨ms,rm,pm⟩:=ints_perm pw r'
  have lw:=rm.length
  rw[List.length_map]at lw
  refine wpAny_pure ⟨_,rfl,.ref h'.objs.size,_,I1.laid (t':=tk) (a:=h'.objs.size) (o:=.lst (ms.map V.int)) (fun b u e=>kp3 b u (Nat.ne_of_lt (Heap.lt_size e)) (kp2 b u e)) (Nat.le_refl _) (show ObjOk X.prog X.w _ g _ (.lst (ms.map V.int))from⟨?_,ws,c,rm,gg⟩),rfl,q _ ms (I1.hok.fresh (Nat.le_refl _)) pm ?_⟩
  ·rw[List.length_map,pm.length_eq,sizeLine_eq];lia
  ·rw[List.pairwise_iff_getElem]
   intro i j hi hj ij
   have z:=sw i j (Nat.le_of_lt ij) (by lia)
   have kk:∀ m (hm:m<ms.length),KK κI (pairsOf ws) m=ms[m]:=fun m hm=>by
    obtain⟨u,g1,t,g2⟩:=rm.get (i:=m) (x:=V.int ms[m]) (by rw[List.getElem?_map,List.getElem?_eq_getElem hm];rfl)
    have e:(pairsOf ws)[m]?=some (u,u):=by
     have hm':m<ws.length:=by lia
     have:ws[m]=u:=by rw[List.getElem?_eq_getElem hm']at g1;exact Option.some.inj g1
     simp[pairsOf,hm',this]
    unfold KK
    rw[e,g2]
    rfl
   rw[kk i hi,kk j hj]at z
   have z':decide (ms[j]<ms[i])=false:=z
   have:=of_decide_eq_false z'
   lia
end
open PySem PySem.W PyProof.Rows HT
end L2
namespace SetA
open PySem
open PySem
open PySem
open PySem
open PySem
open PySem
open PySem
open PySem
open PySem
open PySem L2
open PySem L2
open PySem L2
section
variable{prog:Program}{w:World}{A:Around}{E:Value->Shared->Prop}{s:Shared}{T:List Addr}
noncomputable abbrev newO(led:Bool):Obj:={ cls:=.type "set",dict:=none,data:=.set #[] 0 (.fresh 0 0 led) }
end
open PySem PySem.W PyProof.Rows
noncomputable abbrev byT(w:World):Bool:=w.params.followText "set-order"
theorem cut_perm{α:Type}:∀ (i:Nat) (l:List α) (h:i<l.length),(l[i] :: l.eraseIdx i).Perm l
 | 0,_ :: _,_=>.refl _
 |i+1,x :: l,h=>by
  show(l[i]'(Nat.lt_of_succ_lt_succ h) :: x :: l.eraseIdx i).Perm _
  exact(List.Perm.swap _ _ _).trans ((cut_perm i l (Nat.lt_of_succ_lt_succ h)).cons x)
section
variable{prog:Program}{w:World}{A:Around}{E:Value->Shared->Prop}{s:Shared}{a it:Addr}{es:Array (Int×Value)}{ep i:Nat}{t:SetTable}
theorem setsByText_w{Q:Bool->Shared->Prop}(q:Q (byT w) s):wpAny (model prog w) A setsByText Q E s:=by
 unfold setsByText
 exact wpAny_bind (wpAny_askSetting (wpAny_pure q))
end
end SetA
namespace L2
open PySem PySem.W PyProof.Rows Srt SetA
open PySem PySem.W PyProof.Rows Srt
noncomputable abbrev sEmp:HO:=.set (fun _=>false) 0
noncomputable def SPut(H:Hp)(a:Addr)(y:V)(H':Hp):Prop:=∃ S n k,H a=some (.set S n)/\n+1<scanBound/\y = .int k/\H'=upd H a (.set (fun k'=>S k' || decide (k'=k)) (if S k then n else n+1))
section
variable{X:Cx}{pins:List (Addr×Obj)}{σ:St}{H:Hp}{s:Shared}{a:Addr}{y:V}{u:Value}{A:Around}{E:Value->Shared->Prop}
theorem s_add{H':Hp}{Q:Value->Shared->Prop}(I:Inv X pins σ H s)(g:SPut H a y H')(ry:RelV y u)(h:∀ s',Inv X pins σ H' s'->Q .none s'):wpAny (model X.prog X.w) A (call (.builtin "set.add") [.ref a,u]) Q E s:=by
 obtain⟨S,n,k,e,l,ey,eH⟩:=g
 subst ey eH
 obtain⟨t,rfl⟩:=ry
 have hs:s.heap.SetOf (intKind X.prog X.w) a S n:=I.hok a _ e
 refine call_set_add (knd:=intKind X.prog X.w) (k:=k) (by simp[intKind,Value.isInt]) rfl hs l fun h' sb hs'=>h _ ?_
 have he:∃ q,h'.get? a=some q:=let ⟨q,_,_,_,hq,_⟩:=hs';⟨q,hq⟩
 exact d_write I (by rw[e];exact True.intro) sb he hs'
end
section
variable{prog:Program}{w:World}{A:Around}{R:Result->Shared->Prop}{s:Shared}
theorem compTurn_set (vx target iter : Expr) (ifs : List Expr) (scope : Scope) (pos : Pos) (it : Value) (D : Addr) (env : Env) : compTurn (.SetComp vx [⟨target, iter, ifs, 0⟩] scope pos) 0 it (.ref D) env = (do
      standAt iter.pos; match ← pyNext it with
      | none => pure (.done .next)
      | some v => letOwnedTupleGo target it v; assign target env v; let mut ok := true
                  for c in ifs do if ok then ok ← isTrue c env (eval c env)
                  if ok then (do let vv ← eval vx env; standAt vx.pos; let _ ← call (.builtin "set.add") [.ref D, vv])
                  again (.compLoop (.SetComp vx [⟨target, iter, ifs, 0⟩] scope pos) 0 it (.ref D) env)) := by rfl
theorem start_set{prog:Program}{w:World}{A:Around}{R:Result->Shared->Prop}{s:Shared}{vx target iter ifs scope pos it acc env}(h0:codeAny (model prog w) A (.compLoop (.SetComp vx [⟨target,iter,ifs,0⟩] scope pos) 0 it acc env) R s)
  (h:wpAny (model prog w) A (pyIter it) (fun it' s'=>codeAny (model prog w) A (.compLoop (.SetComp vx [⟨target,iter,ifs,0⟩] scope pos) 0 it' acc env) R s') (notedBy (model prog w) A env fun x s'=>R (.error x) s') s):codeAny (model prog w) A (.compStart (.SetComp vx [⟨target,iter,ifs,0⟩] scope pos) 0 it acc env) R s:=by
 refine codeAny_of_tree ?_;show wpAny _ A ((compStart (.SetComp vx [⟨target,iter,ifs,0⟩] scope pos) 0 it acc env).onRaise (fun x=>do noteFrame x env;standAt theWindowsPlace)) _ _ s
 refine wpAny_notedAt ?_;unfold compStart;show wpAny _ A (ask >>= _) _ _ s;refine wpAny_bind (wpAny_askSetting (wpAny_ite ?_));split
 ·first | exact wpAny_bind (wpAny_pure (wpAny_pure (And.intro rfl h0))) | exact wpAny_pure (And.intro rfl h0)
 ·refine wpAny_bind (wpAny_rule ?_);show wpAny _ _ (standAt iter.pos >>= _) _ _ s;refine wpAny_bind (wpAny_standAt (wpAny_bind (wpAny_mono h (fun it' s' h'=>wpAny_pure (And.intro rfl h')) fun _ _ x=>x)))
theorem new_set{prog:Program}{w:World}{A:Around}{E:Value->Shared->Prop}{s:Shared}{Q:Value->Shared->Prop}(h:Q (.ref s.heap.objs.size) { s with heap:=s.heap.push (SetA.newO (!w.params.followText "set-order")) }):wpAny (model prog w) A (newSet (.type "set")) Q E s:=by
 unfold newSet
 refine wpAny_bind (SetA.setsByText_w ?_)
 dsimp only
 simp only[newObj]
 exact wpAny_bind (wpAny_alloc (wpAny_pure h))
theorem scompLoop{vx target iter:Expr}{ifs:List Expr}{scope:Scope}{pos:Pos}{it:Value}{D:Addr}{env:Env}(I:Nat->Shared->Prop)
  (turn:∀ n s,I n s->wpAny (model prog w) A (pyNext it) (fun r s₁=>match r with
   |none=>R (.ok .next) s₁
   |some v=>wpAny (model prog w) A (letOwnedTupleGo target it v) (fun _ s₁'=>wpAny (model prog w) A (assign target env v) (fun _ s₂ =>
     wpAny (model prog w) A (forIn ifs true fun c r=>if r=true then do let ok <- isTrue c env (eval c env);pure (ForInStep.yield ok)else pure (ForInStep.yield r)) (fun ok s₃ =>
      if ok=true then wpAny (model prog w) A (eval vx env) (fun vv s₅=>wpAny (model prog w) A (call (.builtin "set.add") [.ref D,vv]) (fun _ s₆=>∃ m,m<n/\I m s₆) (fun _ _=>False) s₅) (fun _ _=>False) s₃
      else ∃ m,m<n/\I m s₃) (fun _ _=>False) s₂) (fun _ _=>False) s₁') (fun _ _=>False) s₁) (fun _ _=>False) s)
  (n:Nat) (h:I n s):codeAny (model prog w) A (.compLoop (.SetComp vx [⟨target,iter,ifs,0⟩] scope pos) 0 it (.ref D) env) R s:=by
 refine codeAny_loop rfl I (fun n s hI=>?_) n h
 show wpAny _ A ((compTurn (.SetComp vx [⟨target,iter,ifs,0⟩] scope pos) 0 it (.ref D) env).onRaise (fun x=>do noteFrame x env;theTreesLotGoes x)) _ _ s
 refine wpAny_noted ?_
 rw[compTurn_set];refine wpAny_bind (wpAny_standAt (wpAny_bind (wpAny_mono (turn n s hI) (fun r s₁ h₁=>?_) fun _ _ h'=>h'.elim)))
 cases r with
 |none=>exact wpAny_pure h₁
 |some v =>
  refine wpAny_bind (wpAny_mono h₁ (fun _ s₁' h₁'=>?_) fun _ _ h'=>h'.elim);refine wpAny_bind (wpAny_mono h₁' (fun _ s₂ h₂=>wpAny_bind (wpAny_mono h₂ (fun ok s₃ h₃=>?_) fun _ _ h'=>h'.elim)) fun _ _ h'=>h'.elim)
  cases ok with
  |false=>exact wpAny_pure ⟨rfl,h₃⟩
  |true =>
   refine wpAny_bind (wpAny_bind (wpAny_mono h₃ (fun vv s₅ h₅=>wpAny_bind (wpAny_standAt (wpAny_bind (wpAny_mono h₅ (fun _ s₆ h₆=>wpAny_pure (wpAny_pure ⟨rfl,h₆⟩)) fun _ _ h'=>h'.elim)))) fun _ _ h'=>h'.elim))
end
noncomputable def scompTurns(J:It)(cap:List (Option Nat))(σ:St)(H1:Hp)(D:Addr)(Q:VK)(g:TG)(tc:TT)(tv:TE):Prop:=∃ (n:Nat) (P:Nat->Hp->Prop),P 0 H1 /\
 ∀ i H,i<=n->P i H->(J.stop i H/\Q (.ref D) H) \/
  (i<n/\J.go i H/\∀ x H',J.yld i H x H'->g x (capt cap σ) H' fun σ2 H2=>Kp (capt cap σ) σ2/\tc σ2 H2 fun b H3=>if b=true then tv σ2 H3 fun y H5=>∃ H6,SPut H5 D y H6/\P (i+1) H6 else P (i+1) H3)
noncomputable def tSComp(cap:List (Option Nat))(wi:TI)(g:TG)(tc:TT)(tv:TE):TE:=fun σ H Q=>wi σ H fun J H1=>∀ D,H1 D=none->scompTurns J cap σ (upd H1 D sEmp) D Q g tc tv
section
variable{X:Cx}{vx tg iter:Expr}{ifs:List Expr}{scope:Scope}{pos:Pos}{N':List Str}{cap:List (Option Nat)}{wi:TI}{g:TG}{tc:TT}{tv:TE}
theorem scomp_run(hc:X.calm=true)(S:CompScope N' cap X.N X.env.scope scope)(hi:PI X tg iter wi)(hg:∀ C s H fp,PG (cxIn X N' scope C s H fp) tg g)
  (ht:∀ C s H fp,PF (cxIn X N' scope C s H fp) ifs tc) (he:∀ C s H fp,PE (cxIn X N' scope C s H fp) vx tv)
  {pins:List (Addr×Obj)}{s:Shared}{σ:St}{H:Hp}{Q:VK} (I:Inv X pins σ H s) (h:tSComp cap wi g tc tv σ H Q) :
  wpAny (model X.prog X.w) X.A (eval iter X.env) (fun x s₁=>wpAny (model X.prog X.w) X.A (pyIter x) (fun it s₂=>wpAny (model X.prog X.w) X.A (newSet (.type "set")) (fun acc s₃ =>
   wpAny (model X.prog X.w) X.A (newFunctionEnv scope X.env.globals (closCl X.env.cells scope.names []) [] X.env.qual none .none (some X.env)) (fun cenv s₄ =>
    codeAny (model X.prog X.w) X.A (.compStart (.SetComp vx [⟨tg,iter,ifs,0⟩] scope pos) 0 it acc { cenv with scope:=relabel scope X.env }) (CompEnd X pins σ Q acc cenv.locals) s₄) X.xe s₃) X.xe s₂) X.xe s₁) X.xe s:=by
 refine thn (hi pins s σ H _ I h) fun v s1 h1=>thn h1 fun itv s2 h2=>?_
 obtain⟨it,fp,tn,J,H2,e,I2,T,st2,f2,turns⟩:=h2
 subst e
 obtain⟨n,P,p0,turn⟩:=turns s2.heap.objs.size (I2.hok.fresh (Nat.le_refl _))
 refine new_set (wpAny_newFunctionEnv S.nocell (by intro y hy;simp at hy) (fun h₁ hns₁ hsb₁=>?_) S.kind)
 dsimp only at hns₁ hsb₁ ⊢
 generalize hHp:s2.heap.push (SetA.newO (!X.w.params.followText "set-order"))=Hq at hns₁ hsb₁ ⊢
 have hC:Hq.objs.size=s2.heap.objs.size+1:=by rw[<- hHp,Heap.size_push]
 have hDC:s2.heap.objs.size≠Hq.objs.size:=by rw[hC];exact Nat.ne_of_lt (Nat.lt_succ_self _)
 have hCle:s2.heap.objs.size<=Hq.objs.size:=by rw[hC];exact Nat.le_succ _
 have old:∀ b o,s2.heap.get? b=some o->h₁.get? b=some o:=fun b o e =>
  hsb₁.extBut b o (by rw[hC];exact Nat.ne_of_lt (Nat.lt_succ_of_lt (Heap.lt_size e))) (Heap.get?_push_of_some _ (hHp▸Heap.get?_push_of_some _ e))
 have hacc:h₁.get? s2.heap.objs.size=some (SetA.newO (!X.w.params.followText "set-order")):=hsb₁.extBut _ _ hDC (Heap.get?_push_of_some _ (hHp▸Heap.get?_push_size _ rfl))
 have hfo:∀ b∈fp,∃ o,s2.heap.get? b=some o:=fun b hb=>let ⟨o,e,_⟩:=T.obj _ _ st2 b hb;⟨o,e⟩
 have st4:tn 0 h₁:=T.keep _ _ _ st2 fun b _ o e=>old b o e
 let D:Addr:=s2.heap.objs.size
 let C:Addr:=Hq.objs.size
 let Y:Cx:=cxIn X N' scope C s2 H2 fp
 have hDfp:D∉fp:=fun hb=>by
  obtain⟨o,e⟩:=hfo D hb
  exact Nat.lt_irrefl _ (Heap.lt_size e)
 have stat:∀ {H':Hp},(∀ b∈fp,H' b=none)->∀ b∈fp,FpOk Y pins H' b:=fun {H'} hn b hb=>by
  obtain⟨f0,f1,fx,f3,f4,f5⟩:=f2 b hb
  obtain⟨o,e⟩:=hfo b hb
  refine⟨hn b hb,fun z=>?_,fun z=>?_,.inl hb,fun x c e=>f4 x c (closCl_sound _ _ (S.clos I2) (fun y c e=>by simp at e) x c e),f5⟩
  ·have h1:=Nat.lt_of_lt_of_le (Heap.lt_size e) hCle
   have z:b=Hq.objs.size:=z
   rw[z]at h1
   exact Nat.lt_irrefl _ h1
  ·rcases List.mem_cons.mp (I2.stkSub b z)with e | e
   ·exact f1 e
   ·exact fx e
 have loop:∀ s₃:Shared,s₃ = { s2 with heap:=h₁,toks:=s2.toks+([]:List (Str×Value)).length } ->
   codeAny (model X.prog X.w) X.A (.compLoop (.SetComp vx [⟨tg,iter,ifs,0⟩] scope pos) 0 (.ref it) (.ref s2.heap.objs.size) (compEnvC scope (closCl X.env.cells scope.names []) Hq.objs.size X.env))
    (CompEnd X pins σ Q (.ref s2.heap.objs.size) Hq.objs.size) s₃:=by
  rintro s₃ rfl
  have inF:∀ {pl:List (Addr×Obj)}{p:Addr×Obj},p∈pl->p∈Y.pn++(pins++pl):=fun {pl p} hp=>List.mem_append_right _ (List.mem_append_right _ hp)
  refine scompLoop (fun m s'=>∃ i H',m=n-i/\i<=n/\Inv Y pins (capt cap σ) H' s'/\tn i s'.heap/\(∀ b∈fp,H' b=none)/\P i H') ?_ n ?_
  ·rintro m s3 ⟨i,H3,rfl,hin,I3,st3,fr3,p3⟩
   rcases turn i H3 hin p3 with⟨stop,q⟩ |⟨hlt,go,step⟩
   ·refine thn (T.done Y rfl rfl rfl hc i _ s3 _ H3 (fun _ _=>False) I3 (stat fr3) st3 stop) fun r s4 ⟨hr,I4⟩=>?_
    subst hr
    have IX:Inv X pins σ H3 s4:=I2.call' (ch:=fp) I4.os I4.base I4.hok I4.bare fun b hb=>by
     obtain⟨f0,f1,fx,f3,f4,f5⟩:=f2 b hb
     exact⟨f3,f1,f4,f5⟩
    obtain⟨m',hm',_⟩:=I4.loc
    exact⟨.ref D,_,IX,rfl,q,⟨m',hm'⟩,I2.fpOk hCle I4.free⟩
   ·refine thn (T.item Y rfl rfl rfl hc i _ s3 _ H3 (fun _ _=>False) I3 (stat fr3) st3 go) fun r s4 ⟨u,hr,h4⟩=>?_
    subst hr
    refine thn h4 fun _ s5 ⟨x,H5,I5,r5,y5,st5,fr5⟩=>?_
    have I5':=I5.pinned (stat fr5) (T.obj _ _ st5)
    refine thn (hg C s2 H2 fp _ s5 _ H5 x u _ I5' r5 (step x H5 y5)) fun _ s6 ⟨σ6,H6,I6,kp,q6⟩=>?_
    refine thn (ht C s2 H2 fp _ s6 σ6 H6 _ I6 q6) fun b s7 ⟨H7,I7,q7⟩=>?_
    cases b with
    |false =>
     rw[if_neg Bool.false_ne_true]at q7 ⊢
     refine⟨n-(i+1),Nat.sub_succ_lt_self n i hlt,i+1,H7,rfl,hlt,I7.unpinned.weak kp.length kp.get,?_,fun b hb=>?_,q7⟩
     ·exact T.keep _ _ _ st5 fun b hb o e=>(I7.pin (b,o) (inF (mem_pinsAt hb e))).1
     ·obtain⟨o,e,d⟩:=T.obj _ _ st5 b hb
      exact(I7.pin (b,o) (inF (mem_pinsAt hb e))).2.1
    |true =>
     rw[if_pos rfl]at q7 ⊢
     refine thn (he C s2 H2 fp _ s7 σ6 H7 _ I7 q7) fun yv s9 ⟨y,H9,I9,r9,H10,dp,q9⟩=>?_
     refine s_add (X:=Y) I9 dp r9 fun s10 I10=>?_
     refine⟨n-(i+1),Nat.sub_succ_lt_self n i hlt,i+1,H10,rfl,hlt,I10.unpinned.weak kp.length kp.get,?_,fun b hb=>?_,q9⟩
     ·exact T.keep _ _ _ st5 fun b hb o e=>(I10.pin (b,o) (inF (mem_pinsAt hb e))).1
     ·obtain⟨o,e,d⟩:=T.obj _ _ st5 b hb
      exact(I10.pin (b,o) (inF (mem_pinsAt hb e))).2.1
  ·have I4:=cxIn_inv (s4:={ s2 with heap:=h₁,toks:=s2.toks+([]:List (Str×Value)).length }) S I2 hCle f2 hfo rfl rfl old hns₁ hacc (Nat.le_refl _) hDC fun v z=>by cases z
   obtain⟨_,pD1,pD2,pD3,_⟩:=I4.pin (D,(SetA.newO (!X.w.params.followText "set-order"))) (List.mem_append_right _ (List.mem_append_right _ (List.mem_singleton.mpr rfl)))
   have I5:Inv Y pins (capt cap σ) H2 { s2 with heap:=h₁,toks:=s2.toks+([]:List (Str×Value)).length }:=I4.pins_of fun p hp=>I4.pin p (List.mem_append_right _ (List.mem_append_left _ hp))
   have fD:FpOk Y pins H2 D:=⟨pD1,pD2,pD3,.inr (Nat.le_refl _),fun x c e z=>by
    obtain⟨v,q⟩:=I2.cell x c (closCl_sound _ _ (S.clos I2) (fun y c e=>by simp at e) x c e)
    have h1:=q.lt
    rw[show c=s2.heap.objs.size from z]at h1
    exact Nat.lt_irrefl _ h1,fun p hp z=>by
    have h1:=Heap.lt_size (I2.pin p hp).1
    rw[show p.1=s2.heap.objs.size from z]at h1
    exact Nat.lt_irrefl _ h1⟩
   have new:ObjOk X.prog X.w (upd H2 D sEmp) h₁ D sEmp:=⟨_,#[],0,_,hacc,⟨rfl,rfl,rfl⟩,rfl,(fun e he=>by simp at he),fun k=>by simp,by decide,rfl,rfl⟩
   refine⟨0,upd H2 D sEmp,rfl,Nat.zero_le _,I5.track fD new,st4,fun b hb=>?_,p0⟩
   rw[upd_ne (fun z=>hDfp (by rw[<- z];exact hb))]
   exact(f2 b hb).1
 exact start_set (loop _ rfl) (T.self X.A 0 _ _ _ st4 (loop _ rfl))
theorem pe_scomp(hc:X.calm=true)(S:CompScope N' cap X.N X.env.scope scope)(hi:PI X tg iter wi)(hg:∀ C s H fp,PG (cxIn X N' scope C s H fp) tg g)
  (ht:∀ C s H fp,PF (cxIn X N' scope C s H fp) ifs tc) (he:∀ C s H fp,PE (cxIn X N' scope C s H fp) vx tv)
  (hs:∀ x,foldedSetIterable iter X.env x=pure x:=by intro _;rfl):PE X (.SetComp vx [⟨tg,iter,ifs,0⟩] scope pos) (tSComp cap wi g tc tv):=by
 intro pins s σ H Q I h
 rw[arm_eval_SetComp]
 refine wpAny_comprehension_free (use:=none) rfl hs (closureFor_cells (S.clos I)) S.kind S.loc (thn (scomp_run (pos:=pos) hc S hi hg ht he I h) fun x s1 h1=>thn h1 fun it s2 h2=>thn h2 fun acc s3 h3=>thn h3 fun cenv s4 h4=>?_)
 refine codeAny_mono h4 fun r s' hr=>?_
 cases r with
 |error x=>exact hr.elim
 |ok f =>
  obtain⟨v,H',I',rv,q,⟨m,hn⟩,f0,f1,f2,f3,f4,f5⟩:=hr
  refine⟨m,hn,fun h' sb=>⟨v,H',I'.turned (it:=cenv.locals) (t':=s'.toks) (fun b o hb e=>(sb.2 b hb).trans e) f0 f1 f3 f4 f5,rv,q⟩⟩
end
open PySem PySem.W PyProof.Rows Srt
noncomputable def nubF(σ:List Int)(ns:List Int):List Int:=ns.foldl step_dedup σ
noncomputable abbrev nub(ns:List Int):List Int:=nubF [] ns
theorem step_nub(σ:List Int)(v:Int):step_dedup σ v=if v∈σ then σ else σ++[v]:=by
 unfold step_dedup
 by_cases h:v∈σ
 ·rw[if_pos h,if_pos (List.any_eq_true.mpr ⟨v,h,by simp⟩)]
 ·rw[if_neg h,if_neg fun z=>by
   obtain⟨x,hx,e⟩:=List.any_eq_true.mp z
   rw[show v=x by simpa using(beq_iff_eq.mp e).symm]at h
   exact h hx]
theorem nubF_snoc{σ ns:List Int}{v:Int}:nubF σ (ns++[v])=if v∈nubF σ ns then nubF σ ns else nubF σ ns++[v]:=by
 unfold nubF
 rw[List.foldl_append,List.foldl_cons,List.foldl_nil,step_nub]
theorem nubF_spec:∀ (ns σ:List Int),σ.Nodup->(nubF σ ns).Nodup/\(∀ x,x∈nubF σ ns↔x∈σ\/x∈ns)/\(nubF σ ns).length<=σ.length+ns.length/\((nubF σ ns).length=σ.length+ns.length↔(σ++ns).Nodup)
 |[],σ,h=>⟨h,fun x=>⟨.inl,fun z=>z.elim id (fun y=>nomatch y)⟩,Nat.le_refl _,⟨fun _=>by rw[List.append_nil];exact h,fun _=>rfl⟩⟩
 |v :: ns,σ,h=>by
  show(nubF (step_dedup σ v) ns).Nodup/\_
  have e:nubF σ (v :: ns)=nubF (step_dedup σ v) ns:=rfl
  rw[e,step_nub]
  by_cases hv:v∈σ
  ·rw[if_pos hv]
   obtain⟨i1,i2,i3,i4⟩:=nubF_spec ns σ h
   refine⟨i1,fun x=>?_,by rw[List.length_cons];lia,?_⟩
   ·rw[i2 x,List.mem_cons]
    exact⟨fun z=>z.elim .inl (fun y=>.inr (.inr y)),fun z=>z.elim .inl (fun y=>y.elim (fun q=>.inl (q▸hv)) .inr)⟩
   ·rw[List.length_cons]
    refine⟨fun z=>by lia,fun z=>?_⟩
    exact absurd rfl ((List.nodup_append.mp z).2.2 v hv v (List.mem_cons_self ..))
  ·rw[if_neg hv]
   have h':(σ++[v]).Nodup:=List.nodup_append.mpr ⟨h,by simp,fun a ha b hb=>by
    rw[List.mem_singleton.mp hb]
    exact fun z=>hv (z▸ha)⟩
   obtain⟨i1,i2,i3,i4⟩:=nubF_spec ns (σ++[v]) h'
   rw[List.length_append,List.length_singleton]at i3 i4
   refine⟨i1,fun x=>?_,by rw[List.length_cons];lia,?_⟩
   ·rw[i2 x,List.mem_append,List.mem_singleton,List.mem_cons,or_assoc]
   ·rw[List.length_cons,show σ++v :: ns=σ++[v]++ns by simp,<- i4]
    lia
theorem nub_len(ns:List Int):(nub ns).length=ns.length↔ns.Nodup:=by
 have:=(nubF_spec ns [] List.nodup_nil).2.2.2
 simpa using this
theorem nub_le(ns:List Int):(nub ns).length<=ns.length:=by
 have:=(nubF_spec ns [] List.nodup_nil).2.2.1
 simpa using this
noncomputable def setI(ns:List Int):HO:=.set (fun k=>decide (k∈nub ns)) (nub ns).length
theorem setI_snoc(ns:List Int)(v:Int){S:Int->Bool}{n:Nat}(e1:S=fun k=>decide (k∈nub ns))(e2:n=(nub ns).length):HO.set (fun k'=>S k' || decide (k'=v)) (if S v then n else n+1)=setI (ns++[v]):=by
 subst e1 e2
 unfold setI nub
 rw[nubF_snoc]
 by_cases h:v∈nubF [] ns
 ·rw[if_pos h,if_pos (by simpa using h)]
  congr 1
  funext k
  by_cases z:k=v
  ·subst z;simp[h]
  ·simp[z]
 ·rw[if_neg h,if_neg (by simpa using h),List.length_append,List.length_singleton]
  congr 1
  funext k
  by_cases z:k=v
  ·subst z;simp
  ·simp[z]
theorem sput_I{H:Hp}{D:Addr}{ns:List Int}{v:Int}(h:H D=some (setI ns))(l:ns.length+1<scanBound):SPut H D (.int v) (upd H D (setI (ns++[v]))) :=
 ⟨_,_,v,h,Nat.lt_of_le_of_lt (Nat.add_le_add_right (nub_le ns) 1) l,rfl,by rw[setI_snoc ns v rfl rfl]⟩
section
variable{X:Cx}
theorem call_lenS:CallR X (.builtin "len") (fun xs H Q=>∃ a ns,xs=[V.ref a]/\H a=some (setI ns)/\Q (.int (nub ns).length) H):=by
 intro pins s σ H xs us Q I r h
 obtain⟨a,ns,rfl,ha,q⟩:=h
 obtain⟨u,rfl,ru⟩:=vals1 r
 cases ru
 have x:s.heap.SetOf (intKind X.prog X.w) a _ _:=I.hok a _ ha
 obtain⟨o,es,ep,t,ho,hex,hd,_,_,hb,hf,hn⟩:=x
 refine call_len_set ho hex hd hf (by unfold scanBound at hb;lia) ?_
 exact⟨.int (nub ns).length,H,I.tok _,⟨_,by rw[hn]⟩,q⟩
end
open PySem PySem.W PyProof.Rows
noncomputable def sqO:Bool->List V->HO
 |true,xs=>.tup xs
 |false,xs=>.lst xs
theorem sqB_of{b:Bool}{K:PySem.W.Frag}{H:Hp}{a:Addr}{xs:List V}(h:H a=some (sqO b xs)):SqB b K H a xs:=by
 cases b
 ·exact SqL.of h
 ·exact SqT.of h
theorem sq_or{b:Bool}{K:PySem.W.Frag}{H:Hp}{a:Addr}{xs:List V}(h:H a=some (sqO b xs)):SqL K H a xs\/SqT K H a xs:=by
 cases b
 ·exact .inl (SqL.of h)
 ·exact .inr (SqT.of h)
section
variable{X:Cx}
inductive rIxLhI(x:V)(y:V)(H:Hp)(Q:VK):Prop where
 |mk (p:_) (xs:_) (i:_) (v:_) (h1:x = .ref p) (h2:y = .int i) (h3:H p=some (.lst xs)) (h4:atI xs i=some v) (h5:Q v H)
noncomputable def rIxLh:R2:=fun x y H Q=>rIxLhI x y H Q
inductive rIxThI(x:V)(y:V)(H:Hp)(Q:VK):Prop where
 |mk (p:_) (xs:_) (i:_) (v:_) (h1:x = .ref p) (h2:y = .int i) (h3:H p=some (.tup xs)) (h4:atI xs i=some v) (h5:Q v H)
noncomputable def rIxTh:R2:=fun x y H Q=>rIxThI x y H Q
theorem ix_listH:IxR X rIxLh:=by
 intro value slice pins s σ H x y v u Q I rx ry h hs
 obtain⟨p,xs,i,z,rfl,rfl,hp,he,q⟩:=h
 exact ix_list value slice pins s σ H _ _ v u Q I rx ry ⟨p,xs,i,z,rfl,rfl,SqL.of hp,he,q⟩ hs
theorem ix_tupH:IxR X rIxTh:=by
 intro value slice pins s σ H x y v u Q I rx ry h hs
 obtain⟨p,xs,i,z,rfl,rfl,hp,he,q⟩:=h
 exact ix_tup value slice pins s σ H _ _ v u Q I rx ry ⟨p,xs,i,z,rfl,rfl,SqT.of hp,he,q⟩ hs
theorem get_listH:PGet X rIxLh:=by
 intro pins s σ H x y v u Q I rx ry h
 obtain⟨p,xs,i,z,rfl,rfl,hp,he,q⟩:=h
 cases rx
 obtain⟨t,rfl⟩:=ry
 obtain⟨its,r,pl,hz⟩:=I.list (SqL.of hp)
 obtain⟨j,h1,h2,h3,h4,h5⟩:=atI_get he
 obtain⟨w,ew,rw'⟩:=r.get h2
 have hl:=r.length
 have hn:=line63
 have fin:EP X pins σ Q w s:=⟨z,H,I,rw',q⟩
 by_cases h0:0<=i
 ·have hj:i.toNat=j:=by
   rw[seqIndex_of h0 h5]at h1
   exact Option.some.inj h1
  exact wpAny_getItem_list pl.isList h0 (by lia) (by rw[hj];simpa using ew) fin
 ·have hj:(i+(its.toArray.size:Int)).toNat=j:=by
   rw[seqIndex_neg (by lia) h4]at h1
   rw[List.size_toArray,<- hl]
   exact Option.some.inj h1
  exact wpAny_getItem_list_neg pl.isList (by lia) (by rw[List.size_toArray] <;> lia) (by lia) (by rw[hj];simpa using ew) fin
theorem call_lenH:CallR X (.builtin "len") (fun xs H Q=>∃ p ys,xs=[.ref p]/\H p=some (.lst ys)/\Q (.int ys.length) H):=by
 intro pins s σ H xs us Q I r h
 obtain⟨p,ys,rfl,hp,q⟩:=h
 exact call_len_seq pins s σ H _ us Q I r ⟨p,ys,rfl,.inl (SqL.of hp),q⟩
theorem call_lenTH:CallR X (.builtin "len") (fun xs H Q=>∃ p ys,xs=[.ref p]/\H p=some (.tup ys)/\Q (.int ys.length) H):=by
 intro pins s σ H xs us Q I r h
 obtain⟨p,ys,rfl,hp,q⟩:=h
 exact call_len_seq pins s σ H _ us Q I r ⟨p,ys,rfl,.inr (SqT.of hp),q⟩
theorem call_tupleH:CallR X (.type "tuple") (fun xs H Q=>∃ p ys,xs=[.ref p]/\H p=some (.lst ys)/\∀ l,H l=none->Q (.ref l) (upd H l (.tup ys))):=by
 intro pins s σ H xs us Q I r h
 obtain⟨p,ys,rfl,hp,q⟩:=h
 exact call_tuple_of pins s σ H _ us Q I r ⟨p,ys,rfl,.inl ⟨SqL.of hp,q⟩⟩
theorem call_listH(b:Bool):CallR X (.type "list") (fun xs H Q=>∃ p ys,xs=[.ref p]/\H p=some (sqO b ys)/\∀ l,H l=none->Q (.ref l) (upd H l (.lst ys))):=by
 intro pins s σ H xs us Q I r h
 obtain⟨p,ys,rfl,hp,q⟩:=h
 exact call_list_of pins s σ H _ us Q I r ⟨p,ys,rfl,sq_or hp,q⟩
theorem call_sumH(hc:X.calm=true):CallR X (.builtin "sum") (fun xs H Q=>∃ (l:Addr) (ns:List Int),xs=[V.ref l]/\H l=some (.lst (ns.map V.int))/\Q (.int ns.sum) H):=by
 intro pins s σ H xs us Q I r h
 obtain⟨p,ys,rfl,hp,q⟩:=h
 exact call_sum hc pins s σ H _ us Q I r ⟨p,ys,rfl,SqL.of hp,q⟩
theorem call_anyH(hc:X.calm=true):CallR X (.builtin "any") (fun xs H Q=>∃ (l:Addr) (bs:List Bool),xs=[V.ref l]/\H l=some (.lst (bs.map V.bl))/\Q (.bl (bs.any id)) H):=by
 intro pins s σ H xs us Q I r h
 obtain⟨p,ys,rfl,hp,q⟩:=h
 exact call_any hc pins s σ H _ us Q I r ⟨p,ys,rfl,SqL.of hp,q⟩
theorem call_minLH(hc:X.calm=true):CallR X (.builtin "min") (fun xs H Q=>∃ (l:Addr) (ns:List Int),xs=[V.ref l]/\H l=some (.lst (ns.map V.int))/\ns≠[]/\∀ m:Int,m∈ns->(∀ a∈ns,m<=a)->Q (.int m) H):=by
 intro pins s σ H xs us Q I r h
 obtain⟨p,ys,rfl,hp,n0,q⟩:=h
 exact call_minL hc pins s σ H _ us Q I r ⟨p,ys,rfl,SqL.of hp,n0,q⟩
theorem call_maxLH(hc:X.calm=true):CallR X (.builtin "max") (fun xs H Q=>∃ (l:Addr) (ns:List Int),xs=[V.ref l]/\H l=some (.lst (ns.map V.int))/\ns≠[]/\∀ m:Int,m∈ns->(∀ a∈ns,a<=m)->Q (.int m) H):=by
 intro pins s σ H xs us Q I r h
 obtain⟨p,ys,rfl,hp,n0,q⟩:=h
 exact call_maxL hc pins s σ H _ us Q I r ⟨p,ys,rfl,SqL.of hp,n0,q⟩
inductive rInQI(b n:Bool)(x:V)(y:V)(H:Hp)(Q:VK):Prop where
 |mk (p:_) (xs:_) (h1:y = .ref p) (h2:H p=some (sqO b xs)) (h3:flatV x=true) (h4:xs.all flatV=true) (h5:Q (.bl (if n=true then !inV x xs else inV x xs)) H)
noncomputable def rInQ(b n:Bool):R2:=fun x y H Q=>rInQI b n x y H Q
theorem op_inQ(b:Bool):OpR X (compareOp .In) (rInQ b false):=by
 intro pins s σ H x y v u Q I rx ry h
 obtain⟨p,xs,rfl,hp,fx,fs,q⟩:=h
 exact op_in_seq pins s σ H x _ v u Q I rx ry ⟨p,xs,rfl,sq_or hp,fx,fs,q⟩
theorem op_notInQ(b:Bool):OpR X (compareOp .NotIn) (rInQ b true):=by
 intro pins s σ H x y v u Q I rx ry h
 obtain⟨p,xs,rfl,hp,fx,fs,q⟩:=h
 exact op_notIn_seq pins s σ H x _ v u Q I rx ry ⟨p,xs,rfl,sq_or hp,fx,fs,q⟩
theorem op_inH:OpR X (compareOp .In) (rInQ false false):=op_inQ false
theorem op_notInH:OpR X (compareOp .NotIn) (rInQ false true):=op_notInQ false
noncomputable def tBMh(r:V->List V->Hp->VK->Prop)(to:TE)(t:TA):TE:=fun σ H Q=>to σ H fun x H1=>(∃ p xs,x = .ref p/\H1 p=some (.lst xs))/\t σ H1 fun xs H2=>r x xs H2 Q
theorem pe_bmH{id:String}{name:Str}{r:V->List V->Hp->VK->Prop}{o e:Expr}{es:List Expr}{to:TE}{t:TA}{apos cpos:Pos}(slot:Slot "list" name id)(hty:typeOf (.builtin id)=pure (.type "method_descriptor"))(hm:MtR X id r)(ho:PE X o to)(ha:PA X (e :: es) t)(hbase:attributeBase o name X.env (eval o X.env)=eval o X.env:=by rfl)
  (hfew:((backTo cpos (starEach (e :: es) X.env)).all (fun x=>!x.1) && (backToKw cpos (keywordEach [] X.env)).all (fun x=>x.1.isSome) && decide ((e :: es).length+([]:List Keyword).length+(if([]:List Keyword).isEmpty then 0 else 1)<30))=true:=by rfl) (hline:(apos.endLine == cpos.line)=true:=by rfl)
  (hs:starEach (e :: es) X.env=(false,eval e X.env) :: starEach es X.env:=by rfl) (hplain:(backTo cpos (starEach es X.env)).any (·.1)=false:=by rfl):PE X (.Call (.Attribute o name apos) (e :: es) [] cpos) (tBMh r to t):=by
 intro pins s σ H Q I h
 refine wpAny_Call_method_late hbase hfew hline rfl (thn (ho pins s σ H _ I h) fun v s1 ⟨x,H1,I1,r1,⟨p,xs,ex,hx⟩,q1⟩=>?_)
 subst ex
 obtain⟨h1,h2⟩:=tyV_is (T:="list") I1 r1 (.inl ⟨rfl,xs,SqL.of hx⟩)
 refine⟨"list",id,PySem.F.plainAttrs_list,slot,hty,h1,h2,?_⟩;have hA:=ha cpos pins s1 σ H1 _ I1 q1
 rw[hs]at hA ⊢;refine Calls.callWith_builtin (by show(false ||(backTo cpos (starEach es X.env)).any (·.1))=false;rw[hplain] <;> rfl) (Calls.evalArgs_plain (thn hA fun us s2 ⟨vs,H2,I2,r2,q2⟩=>?_))
 exact hm pins s2 σ H2 _ vs v us Q I2 r1 r2 q2
end
open PySem PySem.W PyProof.Rows
theorem DGet.rd{H:Hp}{a:Addr}{kvs:List (Key×V)}{k:Key}(e:Rd H a (.dK kvs)):DGet H a (kV k) (valV kvs k):=.inl ⟨kvs,k,e,rfl,rfl⟩
theorem star_un{op:UnaryOp}{a:Expr}{pos:Pos}{es:List Expr}{env:Env}:starEach (.UnaryOp op a pos :: es) env=(false,eval (.UnaryOp op a pos) env) :: starEach es env:=rfl
theorem pa_un{X:Cx}{a:Expr}{op:UnaryOp}{pos:Pos}{es:List Expr}{te:TE}{t:TA}(ha:PE X (.UnaryOp op a pos) te)(hr:PA X es t):PA X (.UnaryOp op a pos :: es) (tCons te t):=pa_cons ha hr (hs:=star_un)
theorem for_enumB{b:Bool}{K:PySem.W.Frag}{l:Addr}{xs:List V}{g:TG}{tb:TS}{D:Ends}{σ:St}{H:Hp}(Pv:Nat->St->Hp->Prop)(h0:Pv 0 σ H)(hl:∀ i σ H,i<=xs.length->Pv i σ H->SqB b K H l xs)
  (hs:∀ i x σ H T,xs[i]?=some x->Pv i σ H->H T=none->g (.ref T) σ (upd H T (.tup [.int i,x])) fun σ2 H2=>tb { D with nx:=Pv (i+1),ct:=Pv (i+1),bk:=D.nx } σ2 H2) (hd:∀ σ H,Pv xs.length σ H->D.nx σ H) :
  ∃ W:Nat->Nat->St->Hp->Prop,(∃ m,W 0 m σ H)/\∀ i m σ H,W i m σ H ->
   ((IteB b K l).stop i H/\D.nx σ H)\/((IteB b K l).go i H/\∃ N:St->Hp->Prop,(∀ σ' H',N σ' H'->∃ m',m'<m/\W (i+1) m' σ' H')/\∀ x H',(IteB b K l).yld i H x H'->g x σ H' fun σ2 H2=>tb { D with nx:=N,ct:=N,bk:=D.nx } σ2 H2):=by
 refine⟨fun i m σ H=>m=xs.length-i/\i<=xs.length/\Pv i σ H,⟨xs.length,by simp,Nat.zero_le _,h0⟩,?_⟩
 rintro i m σ H ⟨rfl,hi,p⟩
 have q:=hl i σ H hi p
 by_cases hlt:i<xs.length
 ·refine .inr ⟨⟨xs,xs[i],q,by simp[hlt]⟩,Pv (i+1),fun σ' H' p'=>⟨xs.length-(i+1),by omega,rfl,hlt,p'⟩,fun x H' y=>?_⟩
  obtain⟨T,x',e1,hT,e2,y⟩:=y
  subst e1
  subst e2
  exact hs i x' σ H T (y xs q) p hT
 ·have e:i=xs.length:=by lia
  subst e
  exact .inl ⟨⟨xs,q,Nat.le_refl _⟩,hd σ H p⟩
section
variable{d:Addr}{o:Obj}{kvs:List (Key×V)}{g:TG}{tc:TT}{te:TE}{cap:List (Option Nat)}{σ:St}{H1:Hp}{Q:VK}
theorem comp_dk(P:Nat->List V->Hp->Prop)(hz:kvs.length<=sizeLine)(p0:P 0 [] H1)(hl:∀ i ys H,i<=kvs.length->P i ys H->H d=some (.frz o (.dK kvs)))
  (hs:∀ i kv ys H,kvs[i]?=some kv->P i ys H->g (kV kv.1) (capt cap σ) H fun σ2 H2=>Kp (capt cap σ) σ2/\tc σ2 H2 fun b H3=>if b=true then te σ2 H3 fun y H4=>P (i+1) (ys++[y]) H4 else P (i+1) ys H3)
  (hd:∀ ys H,ys.length<=kvs.length->P kvs.length ys H->∀ D,H D=none->Q (.ref D) (upd H D (.lst ys))):compTurns (Itk d o kvs) cap σ H1 Q g tc te:=by
 refine⟨kvs.length,P,hz,p0,fun i ys H yl il p=>?_⟩
 have q:=hl i ys H il p
 by_cases hlt:i<kvs.length
 ·refine .inr ⟨hlt,⟨q,hlt⟩,fun x H' y=>?_⟩
  obtain⟨e,kv,ek,ex⟩:=y
  subst e ex
  exact hs i kv ys _ ek p
 ·have e:i=kvs.length:=by lia
  subst e
  exact .inl ⟨⟨q,Nat.le_refl _⟩,hd ys H yl p⟩
end
open PySem PySem.W PyProof.Rows
section
variable{M:Model}{A:Around}{E:Value->Shared->Prop}{s:Shared}
theorem newEnv_cell{scope:Scope}{globals:Addr}{closure:List (Str×Addr)}{qual:Str}{func:Option Addr}{code:Value}{builtins:Addr}{env:Env}{y:Str}{Q:Env->Shared->Prop}
  (h1:∀ b acc,cellsFrom b scope.names acc=(y,b) :: acc) (h2:∀ h:Heap,pushCells h scope.names=h.push { cls:=.type "cell",data:=.cell none })
  (hQ:Q (newEnv scope s.heap.objs.size globals ((y,s.heap.objs.size+1) :: closure) qual func code (some env) builtins) { s with heap:=(s.heap.push { cls:=.type "dict",data:=.dict #[] }).push { cls:=.type "cell",data:=.cell none } }) :
  wpAny M A (newFunctionEnv scope globals closure [] qual func code (some env) builtins) Q E s:=by
 simp only[newFunctionEnv,Option.isSome_some,if_true]
 refine wpAny_bind (wpAny_alloc ?_)
 refine wpAny_bind (wpAny_layCells _ (fun name kind cells=>by cases hkc:kind == NameKind.cell <;> simp[hkc]) _ _ _ _ ?_)
 rw[h1,h2,show({ s with heap:=s.heap.push { cls:=.type "dict",data:=.dict #[] } }:Shared).heap.objs.size=s.heap.objs.size+1 from Heap.size_push ..]
 rw[List.forIn_nil]
 exact wpAny_bind (wpAny_pure (wpAny_pure hQ))
end
noncomputable def cxIc(X:Cx)(y:Str)(N':List Str)(scope:Scope)(C:Addr)(s2:Shared)(H2:Hp)(fp:List Addr):Cx :=
 { X with N:=N',s₀:=s2,H₀:=H2,env:=compEnvC scope ((y,C+1) :: closCl X.env.cells scope.names []) C X.env,outer:=X.stack,ex:=fp,fn:=fun x=>decide (x=y),xe:=fun _ _=>False }
structure CellScope(y:Str)(N':List Str)(cap:List (Option Nat))(N:List Str)(sc0 scope:Scope):Prop where
 kind:scope.kind = .function
 one:∀ b acc,cellsFrom b scope.names acc=(y,b) :: acc
 push:∀ h:Heap,pushCells h scope.names=h.push { cls:=.type "cell",data:=.cell none }
 only:∀ x∈scope.names,x.2 = .cell->x.1=y
 own:scope.names.lookup y=some .cell
 loc:∀ x∈scope.names,x.2 = .local->scope.names.lookup x.1=some .local
 fre:∀ x∈scope.names,x.2 = .free->sc0.names.lookup x.1=some .cell\/sc0.names.lookup x.1=some .free
 len:cap.length=N'.length
 cap:∀ j∈List.range cap.length,match cap[j]? with
  |some (some i)=>match N'[j]? with
   |some x=>N[i]?=some x/\scope.names.lookup x=some .free
   |none=>False
  | _=>True
section
variable{X:Cx}{y:Str}{N':List Str}{cap:List (Option Nat)}{scope:Scope}{C:Addr}{s2 s4:Shared}{H2:Hp}{fp:List Addr}{pins:List (Addr×Obj)}{σ:St}
theorem CellScope.clos(S:CellScope y N' cap X.N X.env.scope scope)(I:Inv X pins σ H2 s2):∀ x∈scope.names,x.2 = .free->∃ c,X.env.cells.lookup x.1=some c :=
 fun x hx hf=>I.ok.has x.1 (S.fre x hx hf)
theorem csC_sound(S:CellScope y N' cap X.N X.env.scope scope)(I:Inv X pins σ H2 s2){x:Str}{c:Addr}(e:((y,C+1) :: closCl X.env.cells scope.names []).lookup x=some c):(x=y/\c=C+1)\/X.env.cells.lookup x=some c:=by
 rw[List.lookup_cons]at e
 by_cases z:(x == y)=true
 ·rw[z]at e
  exact .inl ⟨by simpa using z,by cases e;rfl⟩
 ·rw[Bool.eq_false_iff.mpr z]at e
  exact .inr (closCl_sound _ _ (S.clos I) (fun y c e=>by simp at e) x c e)
theorem csC_old(I:Inv X pins σ H2 s2){x:Str}{c:Addr}(hC:s2.heap.objs.size<=C)(e:X.env.cells.lookup x=some c):c≠C+1:=fun z=>by
 obtain⟨v,q⟩:=I.cell x c e
 have h1:=q.lt
 rw[z]at h1
 exact absurd h1 (Nat.not_lt.mpr (Nat.le_succ_of_le hC))
theorem cxIc_ok(S:CellScope y N' cap X.N X.env.scope scope)(I:Inv X pins σ H2 s2)(hC:s2.heap.objs.size<=C)(hfp:∀ b∈fp,FpOk X pins H2 b)(hfo:∀ b∈fp,∃ o,s2.heap.get? b=some o):(cxIc X y N' scope C s2 H2 fp).Ok where
 mod:=I.ok.mod
 kind:=S.kind
 glob:=I.ok.glob
 blt:=I.ok.blt
 above:=hC
 inj:=fun x z c e1 e2=>by
  rcases csC_sound S I e1 with⟨a1,b1⟩ | a1 <;> rcases csC_sound S I e2 with⟨a2,b2⟩ | a2
  ·rw[a1,a2]
  ·exact absurd b1 (csC_old I hC a2)
  ·exact absurd b2 (csC_old I hC a1)
  ·exact I.ok.inj x z c a1 a2
 has:=fun x h=>by
  have key:∀ k,(x,k)∈scope.names->(k = .cell\/k = .free)->∃ c,((y,C+1) :: closCl X.env.cells scope.names []).lookup x=some c:=fun k hk hc=>by
   rw[List.lookup_cons]
   by_cases z:(x == y)=true
   ·rw[z];exact⟨_,rfl⟩
   ·rw[Bool.eq_false_iff.mpr z]
    rcases hc with e | e
    ·subst e;exact absurd (by simpa using S.only _ hk rfl) z
    ·subst e;exact closCl_has _ _ x hk
  rcases h with h | h
  ·obtain⟨k,hk,e |⟨e,_⟩⟩:=relabel_mem (scope:=scope) (l:=scope.names) h
   ·exact key k hk (.inl e)
   ·exact key k hk (.inr e)
  ·obtain⟨k,hk,e |⟨_,e⟩⟩:=relabel_mem (scope:=scope) (l:=scope.names) h
   ·exact key k hk (.inr e)
   ·cases e
 cab:=fun x c h e=>by
  have h:x=y:=of_decide_eq_true h
  rcases csC_sound S I e with⟨_,b1⟩ | a1
  ·rw[b1];exact Nat.le_succ_of_le hC
  ·subst h
   have e:((x,C+1) :: closCl X.env.cells scope.names []).lookup x=some c:=e
   rw[List.lookup_cons,beq_self_eq_true]at e
   cases e
   exact Nat.le_succ_of_le hC
 hd:=I.ok.hd
 frames:=I.ok.frames
 stk:=.inl rfl
 exf:=fun b hb=>⟨fun z=>by
   obtain⟨o,ho⟩:=hfo b hb
   have h1:=Nat.lt_of_lt_of_le (Heap.lt_size ho) hC
   have z:b=C:=z
   rw[z]at h1
   exact Nat.lt_irrefl _ h1,fun x c e=>by
   rcases csC_sound S I e with⟨_,b1⟩ | a1
   ·obtain⟨o,ho⟩:=hfo b hb
    have h1:=Nat.lt_of_lt_of_le (Heap.lt_size ho) hC
    intro z
    rw[<- z,b1]at h1
    exact absurd h1 (Nat.not_lt.mpr (Nat.le_succ _))
   ·exact(hfp b hb).2.2.2.2.1 x c a1⟩
 bs:=I.bs
 bsz:=Nat.le_trans I.ok.bsz I.sz
 noex:=fun b o e hb=>by
  rcases(hfp b hb).2.2.2.1 with z | z
  ·exact I.ok.noex b o e z
  ·exact absurd (Nat.lt_of_lt_of_le (Heap.lt_size e) (Nat.le_trans I.ok.bsz z)) (Nat.lt_irrefl _)
 exfs:=fun b hb z=>by
  rcases List.mem_cons.mp (I.stkSub b z)with e | e
  ·exact(hfp b hb).2.1 e
  ·exact(hfp b hb).2.2.1 e
 funs:=I.stack
 frf:=I.stkFree
theorem cxIc_inv(S:CellScope y N' cap X.N X.env.scope scope)(I:Inv X pins σ H2 s2)(hC:s2.heap.objs.size<=C)(hfp:∀ b∈fp,FpOk X pins H2 b)(hfo:∀ b∈fp,∃ o,s2.heap.get? b=some o)
  (ho:s4.os=s2.os) (hg:s4.gens=s2.gens) (k:∀ b o,s2.heap.get? b=some o->s4.heap.get? b=some o) {m:Str->Option Value} (hn:s4.heap.Ns C m) {D:Addr}{oD:Obj}
  (hD:s4.heap.get? D=some oD) (hDs:s2.heap.objs.size<=D) (hDC:D≠C) (hDc:∀ v,oD.data≠.cell v) (hcl:s4.heap.IsCell (C+1) none) :
  Inv (cxIc X y N' scope C s2 H2 fp) (pins++[(D,oD)]) (capt cap σ) H2 s4 where
 ok:=cxIc_ok S I hC hfp hfo
 os:=ho
 bare:=by rw[hg];exact I.bare
 base:=Un.kept k
 loc:=by
  refine⟨m,hn,fun j x v e1 e2 _=>?_⟩
  have hj:j<cap.length:=by rw[S.len];exact(List.getElem?_eq_some_iff.mp e1).1
  have e1:N'[j]?=some x:=e1
  have hc:=S.cap j (List.mem_range.mpr hj)
  unfold capt at e2
  rw[List.getElem?_map]at e2
  cases hq:cap[j]? with
  |none=>rw[hq]at e2;cases e2
  |some o =>
   rw[hq]at e2 hc
   cases o with
   |none=>cases e2
   |some i =>
    simp only[e1]at hc
    obtain⟨hN,hfr⟩:=hc
    have e3:σ[i]?=some (some v):=by
     have e2:(σ[i]?).join=some v:=Option.some.inj e2
     cases hs:σ[i]? with
     |none=>rw[hs]at e2;cases e2
     |some w=>rw[hs]at e2;have e2:w=some v:=e2;rw[e2]
    have hm:=lookup_mem hfr
    have hk:=S.fre _ hm rfl
    obtain⟨m0,hn0,hl0⟩:=I.loc
    obtain⟨u,r,l⟩:=hl0 i x v hN e3 (.inr hk)
    refine⟨u,r,?_⟩
    rcases l with⟨l,_⟩ |⟨_,c,e,z⟩
    ·rcases hk with hk | hk
     ·rw[show X.env.kindOf x=some .cell from hk]at l;cases l
     ·rw[show X.env.kindOf x=some .free from hk]at l;cases l
    ·obtain⟨c',hc'⟩:=closCl_has (cells:=X.env.cells) scope.names [] x hm
     have hs:=closCl_sound scope.names [] (S.clos I) (fun y c e=>by simp at e) x c' hc'
     rw[e]at hs
     cases hs
     have ny:(x == y)=false:=Bool.eq_false_iff.mpr fun z=>by
      have z:x=y:=by simpa using z
      rw[z,S.own]at hfr
      cases hfr
     refine .inr ⟨relabel_free hfr,c,(by show((y,C+1) :: closCl X.env.cells scope.names []).lookup x=some c;rw[List.lookup_cons,ny];exact hc'),?_⟩
     obtain⟨oc,ho',hd'⟩:=z
     exact⟨oc,k _ _ ho',hd'⟩
 cell:=fun x c e=>by
  rcases csC_sound S I e with⟨_,b1⟩ | a1
  ·rw[b1];exact⟨none,hcl⟩
  ·obtain⟨v,oc,ho',hd'⟩:=I.cell x c a1
   exact⟨v,oc,k _ _ ho',hd'⟩
 free:=I.hok.fresh hC
 freeC:=fun x c e=>by
  rcases csC_sound S I e with⟨_,b1⟩ | a1
  ·rw[b1];exact I.hok.fresh (Nat.le_succ_of_le hC)
  ·exact I.freeC x c a1
 pin:=fun p hp=>by
  have hp:p∈X.pn++(pins++[(D,oD)]):=hp
  have cne:∀ b o,s2.heap.get? b=some o->b≠C:=fun b o e z=>by
   have h1:=Nat.lt_of_lt_of_le (Heap.lt_size e) hC
   rw[z]at h1
   exact Nat.lt_irrefl _ h1
  rw[<- List.append_assoc]at hp
  rcases List.mem_append.mp hp with hp | hp
  ·obtain⟨e,n,ne,nf,d⟩:=I.pin p hp
   exact⟨k _ _ e,n,cne _ _ e,fun z=>by
    rcases List.mem_cons.mp (I.stkSub p.1 z)with e | e
    ·exact ne e
    ·exact nf e,d⟩
  ·have e:p=(D,oD):=by simpa using hp
   subst e
   refine⟨hD,I.hok.fresh hDs,hDC,fun z=>?_,hDc⟩
   rcases List.mem_cons.mp (I.stkSub D z)with e | e
   ·have h1:=Nat.lt_of_lt_of_le I.lt hDs
    rw[e]at h1
    exact Nat.lt_irrefl _ h1
   ·exact I.nofs hDs e
 hok:=I.hok.kept k
 len:=by unfold capt;rw[List.length_map];exact S.len
end
section
variable{X:Cx}{y:Str}{elt tg iter:Expr}{ifs:List Expr}{scope:Scope}{pos:Pos}{N':List Str}{cap:List (Option Nat)}{wi:TI}{g:TG}{tc:TT}{te:TE}
theorem comp_runC(hc:X.calm=true)(S:CellScope y N' cap X.N X.env.scope scope)(hi:PI X tg iter wi)(hg:∀ C s H fp,PG (cxIc X y N' scope C s H fp) tg g)
  (ht:∀ C s H fp,PF (cxIc X y N' scope C s H fp) ifs tc) (he:∀ C s H fp,PE (cxIc X y N' scope C s H fp) elt te)
  {pins:List (Addr×Obj)}{s:Shared}{σ:St}{H:Hp}{Q:VK} (I:Inv X pins σ H s) (h:tComp cap wi g tc te σ H Q) :
  wpAny (model X.prog X.w) X.A (eval iter X.env) (fun x s₁=>wpAny (model X.prog X.w) X.A (pyIter x) (fun it s₂=>wpAny (model X.prog X.w) X.A (newList []) (fun acc s₃ =>
   wpAny (model X.prog X.w) X.A (newFunctionEnv scope X.env.globals (closCl X.env.cells scope.names []) [] X.env.qual none .none (some X.env)) (fun cenv s₄ =>
    codeAny (model X.prog X.w) X.A (.compStart (.ListComp elt [⟨tg,iter,ifs,0⟩] scope pos) 0 it acc { cenv with scope:=relabel scope X.env }) (CompEnd X pins σ Q acc cenv.locals) s₄) X.xe s₃) X.xe s₂) X.xe s₁) X.xe s:=by
 refine thn (hi pins s σ H _ I h) fun v s1 h1=>thn h1 fun itv s2 h2=>?_
 obtain⟨it,fp,tn,J,H2,e,I2,T,st2,f2,n,P,hn,p0,turn⟩:=h2
 subst e
 refine wpAny_newObj_type (newEnv_cell S.one S.push ?_)
 dsimp only
 generalize hHp:s2.heap.push { cls:=.type "list",dict:=none,data:=.seq ([]:List Value).toArray } = Hq
 generalize hh1:(Hq.push { cls:=.type "dict",data:=.dict #[] }).push { cls:=.type "cell",data:=.cell none } = h₁
 have hns₁:h₁.Ns Hq.objs.size fun _=>none:=by rw[<- hh1];exact(Heap.Ns.new Hq (.type "dict")).keeps fun b o e=>Heap.get?_push_of_some _ e
 have hcl₁:h₁.IsCell (Hq.objs.size+1) none:=by
  have e:(Hq.push { cls:=.type "dict",data:=.dict #[] }).objs.size=Hq.objs.size+1:=Heap.size_push ..
  rw[<- hh1,<- e]
  exact⟨_,Heap.get?_push_size _ rfl,rfl⟩
 have up₁:∀ b o,Hq.get? b=some o->h₁.get? b=some o:=fun b o e=>by rw[<- hh1];exact Heap.get?_push_of_some _ (Heap.get?_push_of_some _ e)
 have hC:Hq.objs.size=s2.heap.objs.size+1:=by rw[<- hHp,Heap.size_push]
 have hDC:s2.heap.objs.size≠Hq.objs.size:=by rw[hC];exact Nat.ne_of_lt (Nat.lt_succ_self _)
 have hCle:s2.heap.objs.size<=Hq.objs.size:=by rw[hC];exact Nat.le_succ _
 have old:∀ b o,s2.heap.get? b=some o->h₁.get? b=some o:=fun b o e=>up₁ b o (hHp▸Heap.get?_push_of_some _ e)
 have hacc:h₁.PlainList s2.heap.objs.size #[]:=⟨_,up₁ _ _ (hHp▸Heap.get?_push_size _ rfl)⟩
 have hfo:∀ b∈fp,∃ o,s2.heap.get? b=some o:=fun b hb=>let ⟨o,e,_⟩:=T.obj _ _ st2 b hb;⟨o,e⟩
 have st4:tn 0 h₁:=T.keep _ _ _ st2 fun b _ o e=>old b o e
 let D:Addr:=s2.heap.objs.size
 let C:Addr:=Hq.objs.size
 let Y:Cx:=cxIc X y N' scope C s2 H2 fp
 have hDfp:D∉fp:=fun hb=>by
  obtain⟨o,e⟩:=hfo D hb
  exact Nat.lt_irrefl _ (Heap.lt_size e)
 -- the iterator's objects,seen from within
 have stat:∀ {H':Hp}{oD:Obj},(∀ b∈fp,H' b=none)->∀ b∈fp,FpOk Y (pins++[(D,oD)]) H' b:=fun {H' oD} hn b hb=>by
  obtain⟨f0,f1,fx,f3,f4,f5⟩:=f2 b hb
  obtain⟨o,e⟩:=hfo b hb
  refine⟨hn b hb,fun z=>?_,fun z=>?_,.inl hb,fun x c e=>by
   rcases csC_sound S I2 e with⟨_,b1⟩ | a1
   ·obtain⟨o,ho⟩:=hfo b hb
    have h1:=Nat.lt_of_lt_of_le (Heap.lt_size ho) hCle
    intro z
    rw[<- z,b1]at h1
    exact absurd h1 (Nat.not_lt.mpr (Nat.le_succ _))
   ·exact f4 x c a1,fun p hp=>?_⟩
  ·have h1:=Nat.lt_of_lt_of_le (Heap.lt_size e) hCle
   have z:b=Hq.objs.size:=z
   rw[z]at h1
   exact Nat.lt_irrefl _ h1
  ·rcases List.mem_cons.mp (I2.stkSub b z)with e | e
   ·exact f1 e
   ·exact fx e
  ·have hp:p∈X.pn++(pins++[(D,oD)]):=hp
   rw[<- List.append_assoc]at hp
   rcases List.mem_append.mp hp with hp | hp
   ·exact f5 p hp
   ·have q:p=(D,oD):=by simpa using hp
    subst q
    exact fun z=>hDfp (by rw[show D=b from z];exact hb)
 have loop:∀ s₃:Shared,s₃ = { s2 with heap:=h₁,toks:=s2.toks } ->
   codeAny (model X.prog X.w) X.A (.compLoop (.ListComp elt [⟨tg,iter,ifs,0⟩] scope pos) 0 (.ref it) (.ref s2.heap.objs.size) (compEnvC scope ((y,Hq.objs.size+1) :: closCl X.env.cells scope.names []) Hq.objs.size X.env))
    (CompEnd X pins σ Q (.ref s2.heap.objs.size) Hq.objs.size) s₃:=by
  rintro s₃ rfl
  have cellD:∀ x c,Y.env.cells.lookup x=some c->c≠D:=fun x c e z=>by
   have z:c=s2.heap.objs.size:=z
   rcases csC_sound S I2 e with⟨_,b1⟩ | a1
   ·have b1:c=Hq.objs.size+1:=b1
    rw[z,hC]at b1
    exact absurd b1 (Nat.ne_of_lt (Nat.lt_succ_of_lt (Nat.lt_succ_self _)))
   ·obtain⟨v,q⟩:=I2.cell x c a1
    have h1:=q.lt
    rw[z]at h1
    exact Nat.lt_irrefl _ h1
  have pinD:∀ p∈X.pn++pins,p.1≠D:=fun p hp z=>by
   have h1:=Heap.lt_size (I2.pin p hp).1
   rw[show p.1=s2.heap.objs.size from z]at h1
   exact Nat.lt_irrefl _ h1
  have inD:∀ {pl:List (Addr×Obj)}{oD:Obj},(D,oD)∈Y.pn++((pins++[(D,oD)])++pl):=fun {pl oD}=>List.mem_append_right _ (List.mem_append_left _ (List.mem_append_right _ (by simp)))
  have inF:∀ {pl:List (Addr×Obj)}{oD:Obj}{p:Addr×Obj},p∈pl->p∈Y.pn++((pins++[(D,oD)])++pl):=fun {pl oD p} hp=>List.mem_append_right _ (List.mem_append_right _ hp)
  refine codeAny_compLoop_any (fun m s'=>∃ i ys H' its ep,m=n-i/\i<=n/\ys.length<=i/\Vals ys its/\Inv Y (pins++[(D,{ cls:=.type "list",data:=.seq its.toArray ep })]) (capt cap σ) H' s'/\tn i s'.heap/\(∀ b∈fp,H' b=none)/\P i ys H') ?_ n ?_
  ·rintro m s3 ⟨i,ys,H3,its,ep,rfl,hin,hyl,rv,I3,st3,fr3,p3⟩
   rcases turn i ys H3 hyl hin p3 with⟨stop,q⟩ |⟨hlt,go,step⟩
   ·refine thn (T.done Y rfl rfl rfl hc i _ s3 _ H3 (fun _ _=>False) I3 (stat fr3) st3 stop) fun r s4 ⟨hr,I4⟩=>?_
    subst hr
    obtain⟨eD,nD,_⟩:=I4.pin (D,{ cls:=.type "list",data:=.seq its.toArray ep }) (List.mem_append_right _ (List.mem_append_right _ (by simp)))
    have nD:H3 D=none:=nD
    have okn:ObjOk X.prog X.w (upd H3 D (.lst ys)) s4.heap D (.lst ys):=⟨Nat.le_trans hyl (Nat.le_trans hin hn),its,ep,rv,eD⟩
    have hok:HOk X.prog X.w (upd H3 D (.lst ys)) s4.heap:=fun b u e=>by
     by_cases hb:b=D
     ·subst hb;rw[upd_same]at e;cases e;exact okn
     ·rw[upd_ne hb]at e
      exact(I4.hok b u e).stay (fun c v _ q=>q) (fun c q=>by rw[upd_ne (ne_of_none q nD)];exact q) fun c xs q=>by rw[upd_ne (ne_of_none q nD)];exact q
    have B:=I4.base
    have u:Un (frs X.stack) fp H2 (upd H3 D (.lst ys)) s2.heap s4.heap :=
     ⟨B.keep,B.slot,fun b o e n hx=>by rw[upd_ne (Nat.ne_of_lt (Heap.lt_size e))];exact B.free b o e n hx,B.there,fun b xs e=>by rw[upd_ne (ne_of_none (B.tups b xs e) nD)];exact B.tups b xs e,
      fun b o xs e=>by rw[upd_ne (ne_of_none (B.frzs b o xs e) nD)];exact B.frzs b o xs e,fun b ps e=>by
       obtain⟨more,z⟩:=B.tbls b ps e
       exact⟨more,by rw[upd_ne (ne_of_none z nD)];exact z⟩⟩
    have IX:Inv X pins σ (upd H3 D (.lst ys)) s4:=I2.call' (ch:=fp) I4.os u hok I4.bare fun b hb=>by
     obtain⟨f0,f1,fx,f3,f4,f5⟩:=f2 b hb
     exact⟨f3,f1,f4,f5⟩
    have nC:(upd H3 D (.lst ys)) Hq.objs.size=none:=by rw[upd_ne (Ne.symm hDC)];exact I4.free
    obtain⟨m',hm',_⟩:=I4.loc
    exact⟨.ref D,_,IX,rfl,q D nD,⟨m',hm'⟩,I2.fpOk hCle nC⟩
   ·refine thn (T.item Y rfl rfl rfl hc i _ s3 _ H3 (fun _ _=>False) I3 (stat fr3) st3 go) fun r s4 ⟨u,hr,h4⟩=>?_
    subst hr
    refine thn h4 fun _ s5 ⟨x,H5,I5,r5,y5,st5,fr5⟩=>?_
    have I5':=I5.pinned (stat fr5) (T.obj _ _ st5)
    refine thn (hg C s2 H2 fp _ s5 _ H5 x u _ I5' r5 (step x H5 y5)) fun _ s6 ⟨σ6,H6,I6,kp,q6⟩=>?_
    refine thn (ht C s2 H2 fp _ s6 σ6 H6 _ I6 q6) fun b s7 ⟨H7,I7,q7⟩=>?_
    cases b with
    |false =>
     rw[if_neg Bool.false_ne_true]at q7 ⊢
     refine⟨n-(i+1),Nat.sub_succ_lt_self n i hlt,i+1,ys,H7,its,ep,rfl,hlt,Nat.le_succ_of_le hyl,rv,I7.unpinned.weak kp.length kp.get,?_,fun b hb=>?_,q7⟩
     ·exact T.keep _ _ _ st5 fun b hb o e=>(I7.pin (b,o) (inF (mem_pinsAt hb e))).1
     ·obtain⟨o,e,d⟩:=T.obj _ _ st5 b hb
      exact(I7.pin (b,o) (inF (mem_pinsAt hb e))).2.1
    |true =>
     rw[if_pos rfl]at q7 ⊢
     refine thn (he C s2 H2 fp _ s7 σ6 H7 _ I7 q7) fun yv s8 ⟨y,H8,I8,r8,q8⟩=>?_
     obtain⟨eD,nD,_⟩:=I8.pin (D,{ cls:=.type "list",data:=.seq its.toArray ep }) inD
     have hsz:its.toArray.size<=sizeLine:=by
      rw[List.size_toArray,<- rv.length]
      exact Nat.le_trans hyl (Nat.le_trans hin hn)
     refine wpAny_list_append_plain (items:=its.toArray) ⟨ep,eD⟩ (fun h9 pl9 sb9=>?_) hsz
     obtain⟨ep',e9⟩:=pl9
     have e9:h9.get? D=some { cls:=.type "list",data:=.seq (its++[yv]).toArray ep' }:=by rw[e9];simp
     have Ia:Inv Y pins σ6 H8 s8:=I8.pins_of fun p hp=>I8.pin p (List.mem_append_right _ (List.mem_append_left _ (List.mem_append_left _ hp)))
     have Ib:Inv Y pins σ6 H8 { s8 with heap:=h9 }:=Ia.turned (it:=D) (t':=s8.toks) (fun b o hb e=>(sb9.2 b hb).trans e) nD hDC (.inr (Nat.le_refl _)) cellD pinD
     have Ic:Inv Y (pins++[(D,{ cls:=.type "list",data:=.seq (its++[yv]).toArray ep' })]) σ6 H8 { s8 with heap:=h9 }:=Ib.pins_of fun p hp=>by
      rcases List.mem_append.mp hp with hp | hp
      ·exact Ib.pin p (List.mem_append_right _ hp)
      ·have q:p=(D,{ cls:=.type "list",data:=.seq (its++[yv]).toArray ep' }):=by simpa using hp
       subst q
       obtain⟨_,_,z1,z2,_⟩:=I8.pin (D,{ cls:=.type "list",data:=.seq its.toArray ep }) inD
       exact⟨e9,nD,z1,z2,fun v z=>by cases z⟩
     refine⟨n-(i+1),Nat.sub_succ_lt_self n i hlt,i+1,ys++[y],H8,its++[yv],ep',rfl,hlt,by simp;omega,Vals.append rv (.cons r8 .nil),Ic.weak kp.length kp.get,?_,fun b hb=>?_,q8⟩
     ·exact T.keep _ _ _ st5 fun b hb o e=>sb9.extBut b o (fun z=>hDfp (by rw[show D=b from Eq.symm z];exact hb)) (I8.pin (b,o) (inF (mem_pinsAt hb e))).1
     ·obtain⟨o,e,d⟩:=T.obj _ _ st5 b hb
      exact(I8.pin (b,o) (inF (mem_pinsAt hb e))).2.1
  ·obtain⟨ep,e⟩:=hacc
   refine⟨0,[],H2,[],ep,rfl,Nat.zero_le _,Nat.le_refl _,.nil,?_,st4,fun b hb=>(f2 b hb).1,p0⟩
   exact cxIc_inv (s4:={ s2 with heap:=h₁,toks:=s2.toks }) S I2 hCle f2 hfo rfl rfl old hns₁ e (Nat.le_refl _) hDC (fun v z=>by cases z) hcl₁
 exact codeAny_compStart_list (loop _ rfl) (T.self X.A 0 _ _ _ st4 (loop _ rfl))
theorem pe_compC(hc:X.calm=true)(S:CellScope y N' cap X.N X.env.scope scope)(hi:PI X tg iter wi)(hg:∀ C s H fp,PG (cxIc X y N' scope C s H fp) tg g)
  (ht:∀ C s H fp,PF (cxIc X y N' scope C s H fp) ifs tc) (he:∀ C s H fp,PE (cxIc X y N' scope C s H fp) elt te)
  (hs:∀ x,foldedSetIterable iter X.env x=pure x:=by intro _;rfl):PE X (.ListComp elt [⟨tg,iter,ifs,0⟩] scope pos) (tComp cap wi g tc te):=by
 intro pins s σ H Q I h
 rw[eval_ListComp]
 refine wpAny_comprehension_free (use:=none) rfl hs (closureFor_cells (S.clos I)) S.kind S.loc (thn (comp_runC (pos:=pos) hc S hi hg ht he I h) fun x s1 h1=>thn h1 fun it s2 h2=>thn h2 fun acc s3 h3=>thn h3 fun cenv s4 h4=>?_)
 refine codeAny_mono h4 fun r s' hr=>?_
 cases r with
 |error x=>exact hr.elim
 |ok f =>
  obtain⟨v,H',I',rv,q,⟨m,hn⟩,f0,f1,f2,f3,f4,f5⟩:=hr
  refine⟨m,hn,fun h' sb=>⟨v,H',I'.turned (it:=cenv.locals) (t':=s'.toks) (fun b o hb e=>(sb.2 b hb).trans e) f0 f1 f3 f4 f5,rv,q⟩⟩
end
open PySem PySem.W PyProof.Rows
open PySem PySem.Spec PyProof.Rows
end L2
namespace Flw
noncomputable abbrev Tie:=Int×Int×Int
noncomputable abbrev Arc:=Int×Int×Int
noncomputable abbrev Tr:=List (Int×Option (Int×Int×Int))
noncomputable def TOk(n:Nat)(x:Tie):Prop:=0<=x.1/\x.1<x.2.1/\x.2.1<n/\1<=x.2.2
noncomputable def arcsFrom:Nat->List Tie->Int->List Arc
 | _,[],_=>[]
 |i,x :: r,v=>(if v=x.1 then [((i:Int),x.2.1,1)]else [])++((if v=x.2.1 then [((i:Int),x.1,-1)]else [])++arcsFrom (i+1) r v)
noncomputable def arcAt(ties:List Tie)(v:Int):List Arc:=arcsFrom 0 ties v
theorem arcsFrom_app(v:Int):∀ (l1:List Tie) (i:Nat) (l2:List Tie),arcsFrom i (l1++l2) v=arcsFrom i l1 v++arcsFrom (i+l1.length) l2 v
 |[],i,l2=>rfl
 |x :: r,i,l2=>by
  show(if v=x.1 then [((i:Int),x.2.1,(1:Int))]else [])++((if v=x.2.1 then [((i:Int),x.1,(-1:Int))]else [])++arcsFrom (i+1) (r++l2) v)=((if v=x.1 then [((i:Int),x.2.1,(1:Int))]else [])++((if v=x.2.1 then [((i:Int),x.1,(-1:Int))]else [])++arcsFrom (i+1) r v))++_
  rw[arcsFrom_app v r (i+1) l2,List.append_assoc,List.append_assoc,List.length_cons,show i+1+r.length=i+(r.length+1) by lia]
theorem arcAt_snoc(ties:List Tie)(x:Tie)(v:Int):arcAt (ties++[x]) v=(arcAt ties v++if v=x.1 then [((ties.length:Int),x.2.1,1)]else [])++if v=x.2.1 then [((ties.length:Int),x.1,-1)]else []:=by
 unfold arcAt
 rw[arcsFrom_app]
 show _++(_++(_++[]))=_
 rw[List.append_nil,Nat.zero_add,List.append_assoc]
theorem arcsFrom_len(v:Int):∀ (l:List Tie) (i:Nat),(arcsFrom i l v).length<=2 * l.length
 |[],i=>by simp[arcsFrom]
 |x :: r,i=>by
  unfold arcsFrom
  have:=arcsFrom_len v r (i+1)
  rw[List.length_append,List.length_append,List.length_cons]
  have h1:(if v=x.1 then [((i:Int),x.2.1,(1:Int))]else []).length<=1:=by split <;> simp
  have h2:(if v=x.2.1 then [((i:Int),x.1,(-1:Int))]else []).length<=1:=by split <;> simp
  lia
theorem mem_arcs(v:Int)(y:Arc):∀ (l:List Tie) (i:Nat),y∈arcsFrom i l v↔∃ (j:Nat) (h:j<l.length),y.1=((i+j:Nat):Int)/\((v=l[j].1/\y.2=(l[j].2.1,1))\/(v=l[j].2.1/\y.2=(l[j].1,-1)))
 |[],i=>by simp[arcsFrom]
 |x :: r,i=>by
  unfold arcsFrom
  rw[List.mem_append,List.mem_append,mem_arcs v y r (i+1)]
  obtain⟨y1,y2⟩:=y
  constructor
  ·rintro(h | h |⟨j,h,e,q⟩)
   ·split at h
    ·rw[List.mem_singleton]at h
     injection h with h1 h2
     exact⟨0,by simp,by simpa using h1,.inl ⟨by simpa,by simpa using h2⟩⟩
    ·cases h
   ·split at h
    ·rw[List.mem_singleton]at h
     injection h with h1 h2
     exact⟨0,by simp,by simpa using h1,.inr ⟨by simpa,by simpa using h2⟩⟩
    ·cases h
   ·exact⟨j+1,by simpa using h,by rw[e];congr 1;lia,by simpa using q⟩
  ·rintro⟨j,h,e,q⟩
   cases j with
   |zero =>
    have e:y1=(i:Int):=by simpa using e
    rcases q with⟨q1,q2⟩ |⟨q1,q2⟩
    ·have q1:v=x.1:=q1
     have q2:y2=(x.2.1,1):=q2
     exact .inl (by rw[if_pos q1,e,q2];exact List.mem_singleton.mpr rfl)
    ·have q1:v=x.2.1:=q1
     have q2:y2=(x.1,-1):=q2
     exact .inr (.inl (by rw[if_pos q1,e,q2];exact List.mem_singleton.mpr rfl))
   |succ j =>
    refine .inr (.inr ⟨j,by simpa using h,?_,by simpa using q⟩)
    rw[e]
    congr 1
    lia
theorem mem_arc{ties:List Tie}{v:Int}{y:Arc}:y∈arcAt ties v↔∃ (j:Nat) (h:j<ties.length),y.1=(j:Int)/\((v=ties[j].1/\y.2=(ties[j].2.1,1))\/(v=ties[j].2.1/\y.2=(ties[j].1,-1))):=by
 unfold arcAt
 rw[mem_arcs]
 simp only[Nat.zero_add]
noncomputable def aAt(am:List Int)(i:Int):Int:=am.getD i.toNat 0
noncomputable def wAt(ties:List Tie)(i:Int):Int:=(ties.getD i.toNat (0,0,0)).2.2
noncomputable def room(ties:List Tie)(am:List Int)(turn:Int)(x:Arc):Int:=wAt ties x.1-turn * x.2.2 * aAt am x.1
noncomputable def keys(tr:Tr):List Int:=tr.map (·.1)
noncomputable def addA(ties:List Tie)(am:List Int)(turn pl:Int)(tr:Tr)(x:Arc):Tr:=if x.2.1∉keys tr/\0<room ties am turn x then tr++[(x.2.1,some (pl,x.1,x.2.2))]else tr
noncomputable def visit(ties:List Tie)(am:List Int)(turn pl:Int)(tr:Tr)(xs:List Arc):Tr:=xs.foldl (addA ties am turn pl) tr
noncomputable def bfs(ties:List Tie)(am:List Int)(turn:Int):Nat->Nat->Tr->Tr
 | 0,_,tr=>tr
 |f+1,met,tr=>match tr[met]? with
  |none=>tr
  |some x=>bfs ties am turn f (met+1) (visit ties am turn x.1 tr (arcAt ties x.1))
noncomputable def begin_(S:List Int):Tr:=S.map fun s=>(s,none)
noncomputable def trails(n:Nat)(ties:List Tie)(am:List Int)(turn:Int)(S:List Int):Tr:=bfs ties am turn n 0 (begin_ S)
theorem keys_begin(S:List Int):keys (begin_ S)=S:=by unfold keys begin_;rw[List.map_map];exact List.map_id _
theorem keys_app(a b:Tr):keys (a++b)=keys a++keys b:=List.map_append
inductive TrOk(ties:List Tie)(am:List Int)(turn:Int)(S:List Int):Tr->Prop
 |nil:TrOk ties am turn S []
 |start {tr s}:TrOk ties am turn S tr->s∈S->s∉keys tr->TrOk ties am turn S (tr++[(s,none)])
 |step {tr p x}:TrOk ties am turn S tr->p∈keys tr->x∈arcAt ties p->0<room ties am turn x->x.2.1∉keys tr->TrOk ties am turn S (tr++[(x.2.1,some (p,x.1,x.2.2))])
section
variable{n:Nat}{ties:List Tie}{am:List Int}{turn:Int}{S:List Int}{tr:Tr}
theorem TrOk.nd(h:TrOk ties am turn S tr):(keys tr).Nodup:=by
 induction h with
 |nil=>exact List.nodup_nil
 | @start tr s h m no ih =>
  rw[keys_app,List.nodup_append]
  exact⟨ih,by simp[keys],fun a ha b hb e=>by simp[keys]at hb;subst hb;subst e;exact no ha⟩
 | @step tr p x h m a r no ih =>
  rw[keys_app,List.nodup_append]
  exact⟨ih,by simp[keys],fun a ha b hb e=>by simp[keys]at hb;subst hb;subst e;exact no ha⟩
theorem far_ok(ok:∀ x∈ties,TOk n x){p:Int}{x:Arc}(h:x∈arcAt ties p):0<=x.2.1/\x.2.1<n:=by
 obtain⟨j,hj,e,q⟩:=mem_arc.mp h
 obtain⟨o1,o2,o3,o4⟩:=ok _ (List.getElem_mem hj)
 rcases q with⟨_,q⟩ |⟨_,q⟩
 ·rw[q];exact⟨by show 0<=ties[j].2.1;lia,o3⟩
 ·rw[q];exact⟨o1,by show ties[j].1<n;lia⟩
theorem TrOk.rng(h:TrOk ties am turn S tr)(ok:∀ x∈ties,TOk n x)(hS:∀ s∈S,0<=s/\s<n):∀ k∈keys tr,0<=k/\k<n:=by
 induction h with
 |nil=>intro k hk;cases hk
 | @start tr s h m no ih =>
  intro k hk
  rw[keys_app]at hk
  rcases List.mem_append.mp hk with hk | hk
  ·exact ih k hk
  ·simp[keys]at hk;subst hk;exact hS _ m
 | @step tr p x h m a r no ih =>
  intro k hk
  rw[keys_app]at hk
  rcases List.mem_append.mp hk with hk | hk
  ·exact ih k hk
  ·simp[keys]at hk;subst hk;exact far_ok ok a
theorem nodup_len:∀ {n:Nat}{l:List Int},l.Nodup->(∀ k∈l,0<=k/\k<n)->l.length<=n
 | 0,[],_,_=>Nat.le_refl _
 | 0,x :: r,_,h=>by have:=h x (List.mem_cons_self ..);lia
 |n+1,l,nd,h=>by
  have h1:(l.erase (n:Int)).length<=n:=nodup_len (nd.erase _) fun k hk=>by
   have k1:=(nd.mem_erase_iff.mp hk)
   have:=h k k1.2
   have:=k1.1
   lia
  have:l.length<=(l.erase (n:Int)).length+1:=by
   rw[List.length_erase]
   split <;> lia
  lia
theorem TrOk.len(h:TrOk ties am turn S tr)(ok:∀ x∈ties,TOk n x)(hS:∀ s∈S,0<=s/\s<n):tr.length<=n:=by
 have:=nodup_len h.nd (h.rng ok hS)
 unfold keys at this
 rwa [List.length_map]at this
theorem trOk_begin(nd:S.Nodup):TrOk ties am turn S (begin_ S):=by
 have gen:∀ (l1 l2:List Int),l1++l2=S->TrOk ties am turn S (begin_ l1)->TrOk ties am turn S (begin_ S):=by
  intro l1 l2
  induction l2 generalizing l1 with
  |nil=>intro e h;rw[List.append_nil]at e;subst e;exact h
  |cons x r ih =>
   intro e h
   refine ih (l1++[x]) (by rw[List.append_assoc];exact e) ?_
   have:begin_ (l1++[x])=begin_ l1++[(x,none)]:=by unfold begin_;rw[List.map_append];rfl
   rw[this]
   refine .start h (by rw[<- e];simp) ?_
   rw[keys_begin]
   intro hx
   rw[<- e,List.nodup_append]at nd
   exact nd.2.2 x hx x (List.mem_cons_self ..) rfl
 exact gen [] S rfl .nil
theorem trOk_add{pl:Int}{x:Arc}(h:TrOk ties am turn S tr)(hp:pl∈keys tr)(hx:x∈arcAt ties pl):TrOk ties am turn S (addA ties am turn pl tr x):=by
 unfold addA
 split
 ·rename_i c
  exact .step h hp hx c.2 c.1
 ·exact h
theorem add_keys{pl:Int}{x:Arc}:∃ l,addA ties am turn pl tr x=tr++l:=by
 unfold addA
 split
 ·exact⟨_,rfl⟩
 ·exact⟨[],(List.append_nil _).symm⟩
theorem add_far{pl:Int}{x:Arc}(h:0<room ties am turn x):x.2.1∈keys (addA ties am turn pl tr x):=by
 unfold addA
 split
 ·rw[keys_app];exact List.mem_append_right _ (by simp[keys])
 ·rename_i c
  exact Decidable.byContradiction fun z=>c ⟨z,h⟩
theorem visit_ok{pl:Int}:∀ {xs:List Arc}{tr:Tr},TrOk ties am turn S tr->pl∈keys tr->(∀ x∈xs,x∈arcAt ties pl)->TrOk ties am turn S (visit ties am turn pl tr xs)/\(∃ l,visit ties am turn pl tr xs=tr++l)/\∀ x∈xs,0<room ties am turn x->x.2.1∈keys (visit ties am turn pl tr xs)
 |[],tr,h,hp,hx=>⟨h,⟨[],(List.append_nil _).symm⟩,fun _ z=>nomatch z⟩
 |x :: xs,tr,h,hp,hx=>by
  obtain⟨l,el⟩:=add_keys (ties:=ties) (am:=am) (turn:=turn) (tr:=tr) (pl:=pl) (x:=x)
  have h1:=trOk_add h hp (hx x (List.mem_cons_self ..))
  have hp1:pl∈keys (addA ties am turn pl tr x):=by rw[el,keys_app];exact List.mem_append_left _ hp
  obtain⟨a1,⟨l2,a2⟩,a3⟩:=visit_ok (xs:=xs) h1 hp1 fun y hy=>hx y (List.mem_cons_of_mem _ hy)
  refine⟨a1,⟨l++l2,by show visit ties am turn pl (addA ties am turn pl tr x) xs=_;rw[a2,el,List.append_assoc]⟩,fun y hy r=>?_⟩
  rcases List.mem_cons.mp hy with e | e
  ·subst e
   show y.2.1∈keys (visit ties am turn pl (addA ties am turn pl tr y) xs)
   rw[a2,keys_app]
   exact List.mem_append_left _ (add_far r)
  ·exact a3 y e r
noncomputable def Clo(ties:List Tie)(am:List Int)(turn:Int)(tr:Tr):Prop:=∀ p∈keys tr,∀ x∈arcAt ties p,0<room ties am turn x->x.2.1∈keys tr
noncomputable def CloTo(ties:List Tie)(am:List Int)(turn:Int)(tr:Tr)(m:Nat):Prop:=∀ i p,i<m->(keys tr)[i]?=some p->∀ x∈arcAt ties p,0<room ties am turn x->x.2.1∈keys tr
theorem bfs_ok(ok:∀ x∈ties,TOk n x)(hS:∀ s∈S,0<=s/\s<n):∀ {f met:Nat}{tr:Tr},TrOk ties am turn S tr->CloTo ties am turn tr met->n<=f+met->TrOk ties am turn S (bfs ties am turn f met tr)/\(∃ l,bfs ties am turn f met tr=tr++l)/\Clo ties am turn (bfs ties am turn f met tr)
 | 0,met,tr,h,c,hn=>by
  refine⟨h,⟨[],(List.append_nil _).symm⟩,fun p hp=>?_⟩
  have hp:p∈keys tr:=hp
  obtain⟨i,hi,e⟩:=List.getElem_of_mem hp
  have:=h.len ok hS
  have li:i<tr.length:=by unfold keys at hi;rwa [List.length_map]at hi
  exact c i p (by lia) (by rw[List.getElem?_eq_getElem hi,e])
 |f+1,met,tr,h,c,hn=>by
  unfold bfs
  cases e:tr[met]? with
  |none =>
   refine⟨h,⟨[],(List.append_nil _).symm⟩,fun p hp=>?_⟩
   obtain⟨i,hi,e'⟩:=List.getElem_of_mem hp
   have li:i<tr.length:=by unfold keys at hi;rwa [List.length_map]at hi
   rw[List.getElem?_eq_none_iff]at e
   exact c i p (by lia) (by rw[List.getElem?_eq_getElem hi,e'])
  |some x =>
   obtain⟨hm,ex⟩:=List.getElem?_eq_some_iff.mp e
   have hx:x.1∈keys tr:=List.mem_map.mpr ⟨x,by rw[<- ex];exact List.getElem_mem hm,rfl⟩
   obtain⟨a1,⟨l,a2⟩,a3⟩:=visit_ok (xs:=arcAt ties x.1) h hx fun y hy=>hy
   have c1:CloTo ties am turn (visit ties am turn x.1 tr (arcAt ties x.1)) (met+1):=by
    intro i p hi ep y hy r
    by_cases im:i=met
    ·subst im
     rw[a2,keys_app]at ep
     have ep:p=x.1:=by
      rw[List.getElem?_append_left (by unfold keys;rw[List.length_map];exact hm)]at ep
      unfold keys at ep
      rw[List.getElem?_map,e]at ep
      exact(Option.some.inj ep).symm
     subst ep
     exact a3 y hy r
    ·rw[a2,keys_app]at ep ⊢
     have hl:i <(keys tr).length:=by unfold keys;rw[List.length_map];lia
     rw[List.getElem?_append_left hl]at ep
     exact List.mem_append_left _ (c i p (by lia) ep y hy r)
   obtain⟨b1,⟨l2,b2⟩,b3⟩:=bfs_ok ok hS (f:=f) a1 c1 (by lia)
   exact⟨b1,⟨l++l2,by show bfs ties am turn f (met+1) (visit ties am turn x.1 tr (arcAt ties x.1))=_;rw[b2,a2,List.append_assoc]⟩,b3⟩
theorem trails_ok(ok:∀ x∈ties,TOk n x)(hS:∀ s∈S,0<=s/\s<n)(nd:S.Nodup):TrOk ties am turn S (trails n ties am turn S)/\(∀ s∈S,s∈keys (trails n ties am turn S))/\Clo ties am turn (trails n ties am turn S):=by
 obtain⟨a,⟨l,b⟩,c⟩:=bfs_ok (am:=am) (turn:=turn) ok hS (met:=0) (trOk_begin nd) (fun i p hi=>absurd hi (Nat.not_lt_zero _)) (Nat.le_refl n)
 refine⟨a,fun s hs=>?_,c⟩
 show s∈keys (bfs ties am turn n 0 (begin_ S))
 rw[b,keys_app,keys_begin]
 exact List.mem_append_left _ hs
noncomputable def wayR:Tr->Int->List (Int×Int)
 |[],_=>[]
 |(k,o) :: r,e=>if e=k then(match o with
  |none=>[]
  |some (p,t,s)=>(t,s) :: wayR r p)else wayR r e
noncomputable def way(tr:Tr)(e:Int):List (Int×Int):=wayR tr.reverse e
theorem way_snoc(tr:Tr)(k e:Int)(o:Option (Int×Int×Int)):way (tr++[(k,o)]) e=if e=k then(match o with | none=>[] | some (p,t,s)=>(t,s) :: way tr p)else way tr e:=by
 unfold way
 rw[List.reverse_append]
 rfl
theorem wayR_len:∀ (l:Tr) (e:Int),(wayR l e).length<=l.length
 |[],_=>Nat.le_refl _
 |(k,o) :: r,e=>by
  unfold wayR
  split
  ·cases o with
   |none=>exact Nat.zero_le _
   |some q=>obtain⟨p,t,s⟩:=q;have:=wayR_len r p;simp;omega
  ·have:=wayR_len r e;simp;lia
theorem way_len(tr:Tr)(e:Int):(way tr e).length<=tr.length:=by
 have:=wayR_len tr.reverse e
 rwa [List.length_reverse]at this
theorem TrOk.par(h:TrOk ties am turn S tr):∀ e p t s,(e,some (p,t,s))∈tr->p∈keys tr:=by
 induction h with
 |nil=>intro e p t s h;cases h
 | @start tr s h m no ih =>
  intro e p t s' hm
  rw[keys_app]
  rcases List.mem_append.mp hm with hm | hm
  ·exact List.mem_append_left _ (ih e p t s' hm)
  ·rw[List.mem_singleton]at hm;injection hm with h1 h2;cases h2
 | @step tr p' x h m a r no ih =>
  intro e p t s' hm
  rw[keys_app]
  rcases List.mem_append.mp hm with hm | hm
  ·exact List.mem_append_left _ (ih e p t s' hm)
  ·rw[List.mem_singleton]at hm;injection hm with h1 h2;injection h2 with h2;injection h2 with h2 h3;subst h2
   exact List.mem_append_left _ m
theorem mem_keys{e:Int}{o:Option (Int×Int×Int)}(h:(e,o)∈tr):e∈keys tr:=List.mem_map.mpr ⟨_,h,rfl⟩
theorem way_eq(h:TrOk ties am turn S tr):∀ e o,(e,o)∈tr->way tr e=match o with
  |none=>[]
  |some (p,t,s)=>(t,s) :: way tr p:=by
 induction h with
 |nil=>intro e o h;cases h
 | @start tr s h m no ih =>
  intro e o hm
  rw[way_snoc]
  rcases List.mem_append.mp hm with hm | hm
  ·rw[if_neg fun z=>no (by rw[<- z];exact mem_keys hm),ih e o hm]
   cases o with
   |none=>rfl
   |some q =>
    obtain⟨p,t,s'⟩:=q
    dsimp only
    rw[way_snoc,if_neg fun z=>no (by rw[<- z];exact h.par e p t s' hm)]
  ·rw[List.mem_singleton]at hm;injection hm with h1 h2;subst h1 h2
   rw[if_pos rfl]
 | @step tr p' x h m a r no ih =>
  intro e o hm
  rw[way_snoc]
  rcases List.mem_append.mp hm with hm | hm
  ·rw[if_neg fun z=>no (by rw[<- z];exact mem_keys hm),ih e o hm]
   cases o with
   |none=>rfl
   |some q =>
    obtain⟨p,t,s'⟩:=q
    dsimp only
    rw[way_snoc,if_neg fun z=>no (by rw[<- z];exact h.par e p t s' hm)]
  ·rw[List.mem_singleton]at hm;injection hm with h1 h2;subst h1 h2
   rw[if_pos rfl]
   dsimp only
   rw[way_snoc,if_neg fun z=>no (by rw[<- z];exact m)]
theorem aAt_nat(am:List Int)(j:Nat):aAt am (j:Int)=am.getD j 0:=rfl
theorem wAt_nat{j:Nat}(h:j<ties.length):wAt ties (j:Int)=ties[j].2.2:=by
 unfold wAt
 rw[Int.toNat_natCast,List.getD_eq_getElem?_getD,List.getElem?_eq_getElem h]
 rfl
structure StepOk(ties:List Tie)(am:List Int)(tr:Tr)(x:Int×Int):Prop where
 ex:∃ (j:Nat) (h:j<ties.length),x.1=(j:Int)/\(x.2=1\/x.2 = -1)/\0<wAt ties x.1-x.2 * aAt am x.1/\ties[j].1∈keys tr/\ties[j].2.1∈keys tr
theorem StepOk.more{x:Int×Int}{l:Tr}(h:StepOk ties am tr x):StepOk ties am (tr++l) x:=by
 obtain⟨j,hj,e,a,b,c,d⟩:=h.ex
 exact⟨j,hj,e,a,b,by rw[keys_app];exact List.mem_append_left _ c,by rw[keys_app];exact List.mem_append_left _ d⟩
theorem way_ok(h:TrOk ties am 1 S tr):∀ e∈keys tr,(∀ x∈way tr e,StepOk ties am tr x)/\((way tr e).map (·.1)).Nodup:=by
 induction h with
 |nil=>intro e h;cases h
 | @start tr s h m no ih =>
  intro e he
  rw[way_snoc]
  by_cases z:e=s
  ·rw[if_pos z]
   exact⟨fun _ h=>(nomatch h),List.nodup_nil⟩
  ·rw[if_neg z]
   rw[keys_app]at he
   have he:e∈keys tr:=by
    rcases List.mem_append.mp he with h | h
    ·exact h
    ·simp[keys]at h;exact absurd h z
   obtain⟨a,b⟩:=ih e he
   exact⟨fun x hx=>(a x hx).more,b⟩
 | @step tr p x h m ar r no ih =>
  intro e he
  rw[way_snoc]
  by_cases z:e=x.2.1
  ·rw[if_pos z]
   dsimp only
   obtain⟨a,b⟩:=ih p m
   obtain⟨j,hj,ej,q⟩:=mem_arc.mp ar
   have kf:x.2.1∈keys (tr++[(x.2.1,some (p,x.1,x.2.2))]):=by rw[keys_app];exact List.mem_append_right _ (by simp[keys])
   have kp:p∈keys (tr++[(x.2.1,some (p,x.1,x.2.2))]):=by rw[keys_app];exact List.mem_append_left _ m
   have so:StepOk ties am (tr++[(x.2.1,some (p,x.1,x.2.2))]) (x.1,x.2.2):=by
    unfold room at r
    rw[Int.one_mul]at r
    rcases q with⟨q1,q2⟩ |⟨q1,q2⟩
    ·exact⟨j,hj,ej,.inl (by rw[q2]),r,by rw[<- q1];exact kp,by rw[show ties[j].2.1=x.2.1 by rw[q2]];exact kf⟩
    ·exact⟨j,hj,ej,.inr (by rw[q2]),r,by rw[show ties[j].1=x.2.1 by rw[q2]];exact kf,by rw[<- q1];exact kp⟩
   refine⟨fun y hy=>?_,?_⟩
   ·rcases List.mem_cons.mp hy with e | hy
    ·rw[e];exact so
    ·exact(a y hy).more
   ·rw[List.map_cons,List.nodup_cons]
    refine⟨fun hx=>?_,b⟩
    obtain⟨y,hy,ey⟩:=List.mem_map.mp hx
    obtain⟨j',hj',e',_,_,c,d⟩:=(a y hy).ex
    have:j'=j:=by
     have:(j':Int)=(j:Int):=by rw[<- e',ey,<- ej]
     lia
    subst this
    rcases q with⟨q1,q2⟩ |⟨q1,q2⟩
    ·exact no (by rw[q2];exact d)
    ·exact no (by rw[q2];exact c)
  ·rw[if_neg z]
   rw[keys_app]at he
   have he:e∈keys tr:=by
    rcases List.mem_append.mp he with h | h
    ·exact h
    ·simp[keys]at h;exact absurd h z
   obtain⟨a,b⟩:=ih e he
   exact⟨fun x hx=>(a x hx).more,b⟩
noncomputable def netT(x:Tie)(m v:Int):Int:=(if v=x.1 then m else 0)-(if v=x.2.1 then m else 0)
noncomputable def net:List Tie->List Int->Int->Int
 |x :: r,m :: ms,v=>netT x m v+net r ms v
 | _,_,_=>0
theorem netT_add(x:Tie)(m d v:Int):netT x (m+d) v=netT x m v+netT x d v:=by
 unfold netT
 split <;> split <;> lia
theorem net_set:∀ {ties:List Tie}{am:List Int}{j:Nat}{d v:Int} (h:j<ties.length),am.length=ties.length->net ties (am.set j (am.getD j 0+d)) v=net ties am v+netT ties[j] d v
 |x :: r,m :: ms,0,d,v,h,e=>by
  show netT x (m+d) v+net r ms v=netT x m v+net r ms v+netT x d v
  rw[netT_add]
  lia
 |x :: r,m :: ms,j+1,d,v,h,e=>by
  have:=net_set (ties:=r) (am:=ms) (j:=j) (d:=d) (v:=v) (by simpa using h) (by simpa using e)
  have hj:j<r.length:=by simpa using h
  show netT x m v+net r (ms.set j (ms.getD j 0+d)) v=netT x m v+net r ms v+netT r[j] d v
  rw[this]
  lia
noncomputable def push1(m:Int)(am:List Int)(x:Int×Int):List Int:=am.set x.1.toNat (aAt am x.1+x.2 * m)
noncomputable def pushA(m:Int)(am:List Int)(w:List (Int×Int)):List Int:=w.foldl (push1 m) am
theorem push_len(m:Int):∀ (w:List (Int×Int)) (am:List Int),(pushA m am w).length=am.length
 |[],am=>rfl
 |x :: r,am=>(push_len m r (push1 m am x)).trans (by unfold push1;rw[List.length_set])
theorem way_net(h:TrOk ties am turn S tr):∀ e∈keys tr,∃ s0∈S,∀ (am':List Int) (m v:Int),am'.length=ties.length->net ties (pushA m am' (way tr e)) v=net ties am' v+((if v=s0 then m else 0)-(if v=e then m else 0)):=by
 induction h with
 |nil=>intro e h;cases h
 | @start tr s h m no ih =>
  intro e he
  by_cases z:e=s
  ·refine⟨s,m,fun am' m v l=>?_⟩
   rw[way_snoc,if_pos z,z]
   show net ties am' v=_
   lia
  ·rw[keys_app]at he
   have he:e∈keys tr:=by
    rcases List.mem_append.mp he with h | h
    ·exact h
    ·simp[keys]at h;exact absurd h z
   rw[way_snoc,if_neg z]
   exact ih e he
 | @step tr p x h m ar r no ih =>
  intro e he
  by_cases z:e=x.2.1
  ·obtain⟨s0,hs,q⟩:=ih p m
   refine⟨s0,hs,fun am' m v l=>?_⟩
   rw[way_snoc,if_pos z]
   show net ties (pushA m (push1 m am' (x.1,x.2.2)) (way tr p)) v=_
   rw[q _ m v (by unfold push1;rw[List.length_set];exact l)]
   obtain⟨j,hj,ej,c⟩:=mem_arc.mp ar
   have:net ties (push1 m am' (x.1,x.2.2)) v=net ties am' v+((if v=p then m else 0)-(if v=e then m else 0)):=by
    unfold push1
    dsimp only
    rw[ej,aAt_nat,Int.toNat_natCast,net_set hj l]
    congr 1
    unfold netT
    rcases c with⟨c1,c2⟩ |⟨c1,c2⟩
    ·rw[<- c1,z,c2,Int.one_mul]
    ·rw[<- c1,z,c2]
     dsimp only
     split <;> split <;> lia
   rw[this]
   lia
  ·rw[keys_app]at he
   have he:e∈keys tr:=by
    rcases List.mem_append.mp he with h | h
    ·exact h
    ·simp[keys]at h;exact absurd h z
   rw[way_snoc,if_neg z]
   exact ih e he
structure AmOk(ties:List Tie)(am:List Int):Prop where
 len:am.length=ties.length
 cap:∀ (j:Nat) (h:j<ties.length),-ties[j].2.2<=am.getD j 0/\am.getD j 0<=ties[j].2.2
theorem push1_get{m:Int}{am:List Int}{x:Int×Int}{i j:Nat}(e:x.1=(i:Int))(hi:i<am.length):(push1 m am x).getD j 0=if j=i then am.getD j 0+x.2 * m else am.getD j 0:=by
 unfold push1
 rw[e,aAt_nat,Int.toNat_natCast,List.getD_eq_getElem?_getD,List.getElem?_set]
 by_cases z:j=i
 ·subst z
  rw[if_pos rfl,if_pos rfl,if_pos hi]
  rfl
 ·rw[if_neg (fun w=>z w.symm),if_neg z,<- List.getD_eq_getElem?_getD]
theorem push_ok{m:Int}(m0:0<=m):∀ {w:List (Int×Int)}{am:List Int},AmOk ties am->(w.map (·.1)).Nodup->(∀ x∈w,∃ (j:Nat) (h:j<ties.length),x.1=(j:Int)/\(x.2=1\/x.2 = -1)/\m<=ties[j].2.2-x.2 * am.getD j 0)->AmOk ties (pushA m am w)
 |[],am,h,_,_=>h
 |x :: w,am,h,nd,hx=>by
  obtain⟨j,hj,ej,sg,rm⟩:=hx x (List.mem_cons_self ..)
  have hl:=h.len
  rw[List.map_cons,List.nodup_cons]at nd
  refine push_ok m0 (w:=w) (am:=push1 m am x) ⟨by unfold push1;rw[List.length_set];exact h.len,fun i hi=>?_⟩ nd.2 fun y hy=>?_
  ·rw[push1_get ej (by lia)]
   have c:=h.cap i hi
   split
   ·rename_i z
    subst z
    rcases sg with s | s
    ·rw[s]at rm ⊢;omega
    ·rw[s]at rm ⊢;lia
   ·exact c
  ·obtain⟨i,hi,ei,sg',rm'⟩:=hx y (List.mem_cons_of_mem _ hy)
   refine⟨i,hi,ei,sg',?_⟩
   rw[push1_get ej (by lia),if_neg]
   ·exact rm'
   ·intro z
    subst z
    exact nd.1 (List.mem_map.mpr ⟨y,hy,by rw[ei,ej]⟩)
noncomputable def minL:List Int->Int
 |[]=>0
 |[x]=>x
 |x :: y :: r=>min x (minL (y :: r))
theorem minL_mem:∀ {l:List Int},l≠[]->minL l∈l/\∀ a∈l,minL l<=a
 |[x],_=>⟨List.mem_singleton.mpr rfl,fun a h=>by rw[List.mem_singleton.mp h];exact Int.le_refl _⟩
 |x :: y :: r,_=>by
  obtain⟨a,b⟩:=minL_mem (l:=y :: r) (by simp)
  show min x (minL (y :: r))∈_/\∀ a∈_,min x (minL (y :: r))<=a
  refine⟨?_,fun z hz=>?_⟩
  ·by_cases h:x<=minL (y :: r)
   ·rw[Int.min_eq_left h];exact List.mem_cons_self ..
   ·rw[Int.min_eq_right (by lia)];exact List.mem_cons_of_mem _ a
  ·rcases List.mem_cons.mp hz with e | e
   ·rw[e];exact Int.min_le_left ..
   ·exact Int.le_trans (Int.min_le_right ..) (b z e)
theorem minL_eq{l:List Int}{m:Int}(h:m∈l)(hm:∀ a∈l,m<=a):m=minL l:=by
 obtain⟨a,b⟩:=minL_mem (l:=l) (fun z=>by rw[z]at h;cases h)
 have:=hm _ a
 have:=b _ h
 lia
noncomputable def rooms(ties:List Tie)(am:List Int)(most:Int)(w:List (Int×Int)):List Int:=most :: w.map fun x=>wAt ties x.1-x.2 * aAt am x.1
noncomputable def more(ties:List Tie)(am:List Int)(most:Int)(w:List (Int×Int)):Int:=minL (rooms ties am most w)
noncomputable def endsOf(tr:Tr)(T:List Int):List Int:=(keys tr).filter fun k=>T.contains k
inductive Sends(n:Nat)(ties:List Tie)(S T:List Int):Int->List Int->List Int->Prop
 |stop {most am}:most<=0->Sends n ties S T most am am
 |none {most am}:0<most->endsOf (trails n ties am 1 S) T=[]->Sends n ties S T most am am
 |push {most am e r am'}:0<most->endsOf (trails n ties am 1 S) T=e :: r->Sends n ties S T (most-more ties am most (way (trails n ties am 1 S) e)) (pushA (more ties am most (way (trails n ties am 1 S) e)) am (way (trails n ties am 1 S) e)) am'->Sends n ties S T most am am'
noncomputable def total(ties:List Tie):Int:=(ties.map fun x=>x.2.2).sum
noncomputable def cross:List Tie->List Int->List Int->Int
 |x :: r,m :: ms,L=>(if x.1∈L then m else 0)-(if x.2.1∈L then m else 0)+cross r ms L
 | _,_,_=>0
theorem sum_add(f g:Int->Int):∀ L:List Int,(L.map fun v=>f v+g v).sum=(L.map f).sum+(L.map g).sum
 |[]=>rfl
 |v :: L=>by
  rw[List.map_cons,List.map_cons,List.map_cons,List.sum_cons,List.sum_cons,List.sum_cons,sum_add f g L]
  lia
theorem sum_zero(L:List Int):(L.map fun _=>(0:Int)).sum=0:=by
 induction L with
 |nil=>rfl
 |cons x r ih=>rw[List.map_cons,List.sum_cons,ih];rfl
theorem sum_pt(a m:Int):∀ {L:List Int},L.Nodup->(L.map fun v=>if v=a then m else 0).sum=if a∈L then m else 0
 |[],_=>rfl
 |v :: L,nd=>by
  rw[List.nodup_cons]at nd
  rw[List.map_cons,List.sum_cons,sum_pt a m nd.2]
  by_cases e:v=a
  ·subst e
   rw[if_pos rfl,if_neg nd.1,if_pos (List.mem_cons_self ..)]
   lia
  ·rw[if_neg e]
   by_cases h:a∈L
   ·rw[if_pos h,if_pos (List.mem_cons_of_mem _ h)];lia
   ·rw[if_neg h,if_neg (by rw[List.mem_cons];rintro(z | z);exact e z.symm;exact h z)];rfl
theorem sum_neg(f:Int->Int):∀ L:List Int,(L.map fun v=>-f v).sum = -(L.map f).sum
 |[]=>rfl
 |v :: L=>by
  rw[List.map_cons,List.map_cons,List.sum_cons,List.sum_cons,sum_neg f L]
  lia
theorem net_cross{L:List Int}(nd:L.Nodup):∀ (ties:List Tie) (am:List Int),(L.map (net ties am)).sum=cross ties am L
 |[],am=>by
  have:(net [] am)=fun _=>0:=by funext v;cases am <;> rfl
  rw[this,sum_zero]
  cases am <;> rfl
 |x :: r,[]=>by
  have:(net (x :: r) [])=fun _=>0:=by funext v;rfl
  rw[this,sum_zero]
  rfl
 |x :: r,m :: ms=>by
  have e:(net (x :: r) (m :: ms))=fun v=>((if v=x.1 then m else 0) + -(if v=x.2.1 then m else 0))+net r ms v:=by
   funext v
   show(if v=x.1 then m else 0)-(if v=x.2.1 then m else 0)+net r ms v=_
   lia
  rw[e,sum_add,sum_add,sum_neg,sum_pt _ _ nd,sum_pt _ _ nd,net_cross nd r ms]
  show _=(if x.1∈L then m else 0)-(if x.2.1∈L then m else 0)+cross r ms L
  lia
noncomputable def sideW(ties:List Tie)(L:List Int):Int:=((ties.filter fun x=>decide (x.1∈L) != decide (x.2.1∈L)).map fun x=>x.2.2).sum
theorem sideW_cons(x:Tie)(r:List Tie)(L:List Int):sideW (x :: r) L=(if(decide (x.1∈L) != decide (x.2.1∈L))=true then x.2.2 else 0)+sideW r L:=by
 unfold sideW
 rw[List.filter_cons]
 split
 ·rw[List.map_cons,List.sum_cons]
 ·lia
theorem AmOk.tail{x:Tie}{r:List Tie}{m:Int}{ms:List Int}(h:AmOk (x :: r) (m :: ms)):(-x.2.2<=m/\m<=x.2.2)/\AmOk r ms :=
 ⟨h.cap 0 (by simp),by have:=h.len;simpa using this,fun j hj=>h.cap (j+1) (by simpa using hj)⟩
theorem cross_le(L:List Int):∀ {ties:List Tie}{am:List Int},AmOk ties am->cross ties am L<=sideW ties L
 |[],am,_=>by cases am <;> exact Int.le_refl _
 |x :: r,[],h=>by have:=h.len;simp at this
 |x :: r,m :: ms,h=>by
  obtain⟨c,t⟩:=h.tail
  have:=cross_le L t
  rw[sideW_cons]
  show(if x.1∈L then m else 0)-(if x.2.1∈L then m else 0)+cross r ms L<=_
  by_cases h1:x.1∈L <;> by_cases h2:x.2.1∈L <;> simp[h1,h2] <;> omega
theorem sideW_le(L:List Int):∀ {ties:List Tie},(∀ x∈ties,0<=x.2.2)->sideW ties L<=total ties
 |[],_=>Int.le_refl _
 |x :: r,h=>by
  rw[sideW_cons]
  have:=sideW_le L (ties:=r) fun y hy=>h y (List.mem_cons_of_mem _ hy)
  have h0:=h x (List.mem_cons_self ..)
  have:total (x :: r)=x.2.2+total r:=by unfold total;rw[List.map_cons,List.sum_cons]
  split <;> lia
theorem cross_full{L:List Int}:∀ {ties:List Tie}{am:List Int},am.length=ties.length->(∀ (j:Nat) (h:j<ties.length),(ties[j].1∈L->ties[j].2.1∉L->am.getD j 0=ties[j].2.2)/\(ties[j].2.1∈L->ties[j].1∉L->am.getD j 0 = -ties[j].2.2))->cross ties am L=sideW ties L
 |[],am,_,_=>by cases am <;> rfl
 |x :: r,[],h,_=>by simp at h
 |x :: r,m :: ms,h,f=>by
  have:=cross_full (L:=L) (ties:=r) (am:=ms) (by simpa using h) fun j hj=>f (j+1) (by simpa using hj)
  rw[sideW_cons]
  show(if x.1∈L then m else 0)-(if x.2.1∈L then m else 0)+cross r ms L=_
  have f0:=f 0 (by simp)
  have f1:x.1∈L->x.2.1∉L->m=x.2.2:=f0.1
  have f2:x.2.1∈L->x.1∉L->m = -x.2.2:=f0.2
  rw[this]
  by_cases h1:x.1∈L <;> by_cases h2:x.2.1∈L <;> simp[h1,h2]
  ·exact f1 h1 h2
  ·have:=f2 h2 h1;lia
theorem perm_sum{a b:List Int}(h:a.Perm b):a.sum=b.sum:=by
 induction h with
 |nil=>rfl
 |cons x _ ih=>rw[List.sum_cons,List.sum_cons,ih]
 |swap x y l=>simp only[List.sum_cons];lia
 |trans _ _ h1 h2=>exact h1.trans h2
theorem sum_sub{f:Int->Int}:∀ {S L:List Int},S.Nodup->L.Nodup->(∀ s∈S,s∈L)->(∀ v∈L,v∉S->f v=0)->(L.map f).sum=(S.map f).sum
 |[],L,_,_,_,z=>by
  have:L.map f=L.map fun _=>0:=List.map_congr_left fun v hv=>z v hv (by simp)
  rw[this,sum_zero]
  rfl
 |s :: S,L,n1,n2,sub,z=>by
  rw[List.nodup_cons]at n1
  have hs:=sub s (List.mem_cons_self ..)
  have pe:(L.map f).sum=((s :: L.erase s).map f).sum:=perm_sum ((List.perm_cons_erase hs).map f)
  rw[pe,List.map_cons,List.map_cons,List.sum_cons,List.sum_cons,sum_sub (S:=S) n1.2 (n2.erase s)]
  ·intro x hx
   exact n2.mem_erase_iff.mpr ⟨fun e=>n1.1 (e▸hx),sub x (List.mem_cons_of_mem _ hx)⟩
  ·intro v hv hn
   obtain⟨h1,h2⟩:=n2.mem_erase_iff.mp hv
   exact z v h2 (by rw[List.mem_cons];rintro(e | e);exact h1 e;exact hn e)
structure Fl(n:Nat)(ties:List Tie)(S T:List Int)(am:List Int):Prop where
 ok:AmOk ties am
 even:∀ v:Int,0<=v->v<n->v∉S->v∉T->net ties am v=0
noncomputable def val(ties:List Tie)(am S:List Int):Int:=(S.map (net ties am)).sum
structure Ends(n:Nat)(S T:List Int):Prop where
 sn:S.Nodup
 tn:T.Nodup
 sr:∀ s∈S,0<=s/\s<n
 tr:∀ s∈T,0<=s/\s<n
 ap:∀ s∈S,s∉T
variable{T:List Int}
theorem val_le(E:Ends n S T)(F:Fl n ties S T am){L:List Int}(nd:L.Nodup)(sub:∀ s∈S,s∈L)(no:∀ v∈L,v∉T)(rg:∀ v∈L,0<=v/\v<n):val ties am S<=sideW ties L:=by
 have:(L.map (net ties am)).sum=val ties am S:=sum_sub E.sn nd sub fun v hv hn=>F.even v (rg v hv).1 (rg v hv).2 hn (no v hv)
 rw[<- this,net_cross nd]
 exact cross_le L F.ok
theorem step_in(ok:∀ x∈ties,TOk n x)(h:TrOk ties am 1 S tr){e:Int}(he:e∈keys tr){m:Int}(hm:∀ x∈way tr e,m<=wAt ties x.1-x.2 * aAt am x.1):∀ x∈way tr e,∃ (j:Nat) (h:j<ties.length),x.1=(j:Int)/\(x.2=1\/x.2 = -1)/\m<=ties[j].2.2-x.2 * am.getD j 0:=fun x hx=>by
 obtain⟨j,hj,ej,sg,_,_,_⟩:=((way_ok h e he).1 x hx).ex
 refine⟨j,hj,ej,sg,?_⟩
 have:=hm x hx
 rw[ej,wAt_nat hj,aAt_nat]at this
 exact this
theorem push_fl(ok:∀ x∈ties,TOk n x)(E:Ends n S T)(h:TrOk ties am 1 S tr)(F:Fl n ties S T am){e:Int}(he:e∈keys tr)(eT:e∈T){m:Int}(m0:0<=m)(hm:∀ x∈way tr e,m<=wAt ties x.1-x.2 * aAt am x.1) :
  Fl n ties S T (pushA m am (way tr e))/\val ties (pushA m am (way tr e)) S=val ties am S+m:=by
 obtain⟨s0,hs,q⟩:=way_net h e he
 have hq:=fun v=>q am m v F.ok.len
 have eS:e∉S:=fun z=>E.ap e z eT
 refine⟨⟨push_ok m0 F.ok (way_ok h e he).2 (step_in ok h he hm),fun v v0 v1 vS vT=>?_⟩,?_⟩
 ·have n1:v≠s0:=fun z=>vS (by rw[z];exact hs)
  have n2:v≠e:=fun z=>vT (by rw[z];exact eT)
  rw[hq v,if_neg n1,if_neg n2,F.even v v0 v1 vS vT]
  rfl
 ·unfold val
  have:S.map (net ties (pushA m am (way tr e)))=S.map fun v=>net ties am v+((if v=s0 then m else 0) + -(if v=e then m else 0)):=List.map_congr_left fun v _=>by
   rw[hq v]
   lia
  rw[this,sum_add,sum_add,sum_neg,sum_pt _ _ E.sn,sum_pt _ _ E.sn,if_pos hs,if_neg eS]
  lia
theorem way_room(h:TrOk ties am 1 S tr){e:Int}(he:e∈keys tr):∀ x∈way tr e,1<=wAt ties x.1-x.2 * aAt am x.1:=fun x hx=>by
 obtain⟨j,hj,ej,sg,r,_⟩:=((way_ok h e he).1 x hx).ex
 lia
theorem more_ok(h:TrOk ties am 1 S tr){e:Int}(he:e∈keys tr){most:Int}(m0:0<most):1<=more ties am most (way tr e)/\more ties am most (way tr e)<=most/\∀ x∈way tr e,more ties am most (way tr e)<=wAt ties x.1-x.2 * aAt am x.1:=by
 obtain⟨a,b⟩:=minL_mem (l:=rooms ties am most (way tr e)) (by unfold rooms;simp)
 refine⟨?_,b _ (List.mem_cons_self ..),fun x hx=>b _ (List.mem_cons_of_mem _ (List.mem_map.mpr ⟨x,hx,rfl⟩))⟩
 show 1<=minL _
 rcases List.mem_cons.mp a with z | z
 ·lia
 ·obtain⟨x,hx,ex⟩:=List.mem_map.mp z
  have:=way_room h he x hx
  omega
theorem mem_ends{tr:Tr}{e:Int}:e∈endsOf tr T↔e∈keys tr/\e∈T:=by
 unfold endsOf
 rw[List.mem_filter,List.contains_iff_mem]
theorem sends_fin(ok:∀ x∈ties,TOk n x)(E:Ends n S T){most:Int}{am am':List Int}(h:Sends n ties S T most am am'):Fl n ties S T am->val ties am S+most=total ties->Fl n ties S T am'/\endsOf (trails n ties am' 1 S) T=[]:=by
 induction h with
 | @stop most am h =>
  intro F ev
  refine⟨F,?_⟩
  cases z:endsOf (trails n ties am 1 S) T with
  |nil=>rfl
  |cons e r =>
   exfalso
   have he:=mem_ends.mp (show e∈endsOf (trails n ties am 1 S) T by rw[z];exact List.mem_cons_self ..)
   have tk:=(trails_ok (am:=am) (turn:=1) ok E.sr E.sn).1
   obtain⟨F',v'⟩:=push_fl ok E tk F he.1 he.2 (m:=1) (by decide) (way_room tk he.1)
   have:=val_le E F' E.sn (fun _ h=>h) E.ap E.sr
   have:=sideW_le S (ties:=ties) fun x hx=>by have:=(ok x hx).2.2.2;lia
   lia
 | @none most am h e=>exact fun F ev=>⟨F,e⟩
 | @push most am e r am' h z _ ih =>
  intro F ev
  have he:=mem_ends.mp (show e∈endsOf (trails n ties am 1 S) T by rw[z];exact List.mem_cons_self ..)
  have tk:=(trails_ok (am:=am) (turn:=1) ok E.sr E.sn).1
  obtain⟨m1,m2,m3⟩:=more_ok tk he.1 h
  obtain⟨F',v'⟩:=push_fl ok E tk F he.1 he.2 (by lia) m3
  exact ih F' (by lia)
theorem net_zero:∀ (ties:List Tie) (k:Nat) (v:Int),net ties (List.replicate k 0) v=0
 |[],k,v=>by cases k <;> rfl
 |x :: r,0,v=>rfl
 |x :: r,k+1,v=>by
  show netT x 0 v+net r (List.replicate k 0) v=0
  rw[net_zero r k v]
  unfold netT
  split <;> split <;> rfl
theorem fl_zero(ok:∀ x∈ties,TOk n x):Fl n ties S T (List.replicate ties.length 0) :=
 ⟨⟨by simp,fun j h=>by
  have:=(ok _ (List.getElem_mem h)).2.2.2
  rw[List.getD_eq_getElem?_getD,List.getElem?_replicate,if_pos h]
  show -ties[j].2.2<=0/\0<=ties[j].2.2
  lia⟩,fun v _ _ _ _=>net_zero _ _ _⟩
theorem val_zero:val ties (List.replicate ties.length 0) S=0:=by
 unfold val
 have:net ties (List.replicate ties.length 0)=fun _=>0:=funext fun v=>net_zero _ _ v
 rw[this,sum_zero]
noncomputable def Great(n:Nat)(ties:List Tie)(S T am:List Int):Prop:=Sends n ties S T (total ties) (List.replicate ties.length 0) am
theorem great_ok(ok:∀ x∈ties,TOk n x)(E:Ends n S T)(G:Great n ties S T am):Fl n ties S T am/\∀ k∈keys (trails n ties am 1 S),k∉T:=by
 obtain⟨F,e⟩:=sends_fin ok E G (fl_zero ok) (by rw[val_zero];lia)
 refine⟨F,fun k hk kT=>?_⟩
 have:=mem_ends.mpr ⟨hk,kT⟩
 rw[e]at this
 cases this
theorem sideW_congr{L L':List Int}(h:∀ v,v∈L↔v∈L'):sideW ties L=sideW ties L':=by
 unfold sideW
 congr 2
 apply congrArg (fun p=>List.filter p ties)
 funext x
 rw[decide_eq_decide.mpr (h x.1),decide_eq_decide.mpr (h x.2.1)]
theorem val_side(ok:∀ x∈ties,TOk n x)(E:Ends n S T)(G:Great n ties S T am):val ties am S=sideW ties (keys (trails n ties am 1 S)):=by
 obtain⟨F,no⟩:=great_ok ok E G
 obtain⟨tk,st,cl⟩:=trails_ok (am:=am) (turn:=1) ok E.sr E.sn
 have rg:=tk.rng ok E.sr
 have:((keys (trails n ties am 1 S)).map (net ties am)).sum=val ties am S:=sum_sub E.sn tk.nd st fun v hv hn=>F.even v (rg v hv).1 (rg v hv).2 hn (no v hv)
 rw[<- this,net_cross tk.nd]
 refine cross_full F.ok.len fun j hj=>⟨fun h1 h2=>?_,fun h1 h2=>?_⟩
 ·have:=cl _ h1 ((j:Int),ties[j].2.1,1) (mem_arc.mpr ⟨j,hj,rfl,.inl ⟨rfl,rfl⟩⟩)
  have c:=F.ok.cap j hj
  have r:¬ 0<room ties am 1 ((j:Int),ties[j].2.1,1):=fun z=>h2 (this z)
  unfold room at r
  dsimp only at r
  rw[wAt_nat hj,aAt_nat]at r
  lia
 ·have:=cl _ h1 ((j:Int),ties[j].1,-1) (mem_arc.mpr ⟨j,hj,rfl,.inr ⟨rfl,rfl⟩⟩)
  have c:=F.ok.cap j hj
  have r:¬ 0<room ties am 1 ((j:Int),ties[j].1,-1):=fun z=>h2 (this z)
  unfold room at r
  dsimp only at r
  rw[wAt_nat hj,aAt_nat]at r
  lia
end
structure Side(n:Nat)(S T L:List Int):Prop where
 nd:L.Nodup
 sub:∀ s∈S,s∈L
 no:∀ v∈L,v∉T
 rg:∀ v∈L,0<=v/\v<n
section
variable{n:Nat}{ties:List Tie}{am:List Int}{turn:Int}{S T L:List Int}
theorem side_le(ok:∀ x∈ties,TOk n x)(E:Ends n S T)(G:Great n ties S T am)(h:Side n S T L):val ties am S<=sideW ties L:=val_le E (great_ok ok E G).1 h.nd h.sub h.no h.rg
variable{W:List Int}
variable{L':List Int}
noncomputable def rng(n:Nat):List Int:=(List.range n).map fun(i:Nat)=>(i:Int)
theorem mem_rng{v:Int}:v∈rng n↔0<=v/\v<n:=by
 unfold rng
 rw[List.mem_map]
 constructor
 ·rintro⟨i,hi,e⟩
  have:=List.mem_range.mp hi
  lia
 ·rintro⟨h0,h1⟩
  exact⟨v.toNat,List.mem_range.mpr (by omega),by lia⟩
theorem rng_asc(n:Nat):(rng n).Pairwise (· < ·):=by
 unfold rng
 rw[List.pairwise_map]
 exact List.pairwise_lt_range.imp fun {a b} h=>by lia
theorem rng_nd(n:Nat):(rng n).Nodup:=(rng_asc n).imp fun {a b} h=>by lia
variable{Ls:List (List Int)}{m:Int}
end
end Flw
namespace K19
open PySem L2 PyProof.Rows
structure CalF(P:Program)(w:World)(K:PySem.W.Frag)(mg:Str->Option Value)(base:Heap)(k:Nat)(x:Str)(ps:List Str)(sp:Sp)(g:Addr)(gd:FuncData):Prop where
 ok:FnOk P w K mg base CX0 k g gd ps sp
 mg:mg x=some (.ref g)
 kp:PySem.W.keepIn K (.ref g)=true
 bd:Binds K gd ps []
structure Txt2(mg:Str->Option Value):Prop where
 all:mg "all" = none
 zip:mg "zip" = none
 enum:mg "enumerate" = none
 any:mg "any" = none
 set:mg "set" = none
noncomputable abbrev scO(l:List (Str×NameKind)):Scope:={ kind:=.function,names:=l,isGenerator:=false,isCoroutine:=false }
theorem atI_getD{gs:List Int}{j:Nat}(h:j<gs.length):atI (gs.map V.int) (j:Int)=some (V.int (gs.getD j 0)):=atI_nat (by rw[List.getElem?_map,List.getElem?_eq_getElem h,List.getD_eq_getElem?_getD,List.getElem?_eq_getElem h];rfl)
theorem ixN_nat{n j:Nat}(h:j<n):ixN n (j:Int)=some j:=by
 unfold ixN
 rw[if_pos (by lia),if_pos (by lia),Int.toNat_natCast]
theorem map_setI{gs:List Int}{j:Nat}{x:Int}:(gs.map V.int).set j (.int x)=(gs.set j x).map V.int:=by rw[List.map_set]
theorem rep_zero(n:Nat):(List.replicate n [V.int 0]).flatten=(List.replicate n (0:Int)).map V.int:=by
 induction n with
 |zero=>rfl
 |succ n ih=>rw[List.replicate_succ,List.replicate_succ,List.flatten_cons,ih];rfl
theorem getD_set{gs:List Int}{j:Nat}{x:Int}(hj:j<gs.length)(v:Nat):(gs.set j x).getD v 0=if v=j then x else gs.getD v 0:=by
 rw[List.getD_eq_getElem?_getD,List.getElem?_set]
 by_cases e:v=j
 ·subst e
  rw[if_pos rfl,if_pos rfl,if_pos hj]
  rfl
 ·rw[if_neg (fun z=>e z.symm),if_neg e,<- List.getD_eq_getElem?_getD]
theorem net_snoc:∀ {l1:List Tie}{m1:List Int} (x:Tie) (m v:Int),m1.length=l1.length->Flw.net (l1++[x]) (m1++[m]) v=Flw.net l1 m1 v+Flw.netT x m v
 |[],[],x,m,v,_=>by show Flw.netT x m v+0=0+_;lia
 |y :: l,k :: ms,x,m,v,e=>by
  show Flw.netT y k v+Flw.net (l++[x]) (ms++[m]) v=Flw.netT y k v+Flw.net l ms v+Flw.netT x m v
  rw[net_snoc x m v (by simpa using e)]
  lia
inductive spGvI(vs:List V)(H:Hp)(Q:VK):Prop where
 |mk (t a:Addr) (n:Nat) (ties:List Tie) (am:List Int) (h1:vs=[.ref t,.ref a]) (h2:WebAt H t n ties) (h3:(∀ x∈ties,TieOk n x)) (h4:n<=1000) (h5:H a=some (.lst (am.map V.int))) (h6:am.length=ties.length) (h7:∀ (p:Addr) (gs:List Int) (H':Hp),H p=none->H' p=some (.lst (gs.map V.int))->gs.length=n->(∀ v:Nat,v<n->gs.getD v 0=Flw.net ties am v)->Same H H'->Q (.ref p) H')
noncomputable def spGv:Sp:=fun vs H Q _=>spGvI vs H Q
section
variable{P:Program}{w:World}{K:PySem.W.Frag}{mg:Str->Option Value}{base:Heap}
noncomputable abbrev nGv:List Str:=["web","amounts","many","ties","given","a","b","weight","amount"]
theorem scGv:FnScope nGv ["web","amounts"] (defScope sGivenAt):=⟨rfl,rfl,rfl,by decide +kernel,rfl,by decide +kernel,by decide +kernel⟩
theorem ok_gv{f:Addr}{fd:FuncData}(F:Fun K "given_at" "given_at" sGivenAt f fd)(T2:Txt2 mg):FnOk P w K mg base CX0 1 f fd ["web","amounts"] spGv:=by
 refine F.ok scGv (fun vs H Q E h=>?_) (fun cdv A outer s H vs Q E hr h=>?_)
 ·obtain⟨t,a,n,ties,am,rfl,_⟩:=h
  rfl
 ·obtain⟨t,a,n,ties,am,rfl,W,ok,nb,ha,al,q⟩:=h
  obtain⟨⟨ts,bs,h1,h2,h3⟩,len⟩:=id W
  have h3l:bs.length=ties.length:=h3.length
  refine⟨_,(pss_cons (ps_asg (pv 0) (pg_tup (n:=2) rfl (pgs_cons (pg_name (i:=2) scGv.nd rfl (Or.inl rfl)) (pgs_cons (pg_name (i:=3) scGv.nd rfl (Or.inl rfl)) pgs_nil))))
   (pss_cons (ps_set (i:=4) scGv.nd rfl (Or.inl rfl) (pe_op op_rep (@pe_lst _ _ _ _ (@pa_cst _ _ _ _ _ _ _ pe_int pa_nil)) (pv 2)))
   (pss_cons (ps_for PassesOwn.never rfl (pi_zip true false (by rfl) T2.zip (@pa_nam _ _ _ _ _ _ (pv 3) (@pa_nam _ _ _ _ _ _ (pv 1) pa_nil))) (pg_tup (n:=2) rfl (pgs_cons (pg_tup (n:=3) rfl (pgs_cons (pg_name (i:=5) scGv.nd rfl (Or.inl rfl)) (pgs_cons (pg_name (i:=6) scGv.nd rfl (Or.inl rfl)) (pgs_cons (pg_name (i:=7) scGv.nd rfl (Or.inl rfl)) pgs_nil)))) (pgs_cons (pg_name (i:=8) scGv.nd rfl (Or.inl rfl)) pgs_nil)))
   (pss_cons (ps_augS (pv 4) (pv 5) get_listH (pv 8) ip_add set_list)
   (pss_one (ps_augS (pv 4) (pv 6) get_listH (pv 8) ip_sub set_list))))
   (pss_one (ps_ret (pv 4)))))),?_⟩
  refine⟨_,rfl,t,_,rfl,SqT.of h1,rfl,_,_,rfl,_,_,rfl,rfl,?_⟩
  refine⟨(by show 1<=sizeLine;decide),fun l hl=>⟨_,rfl,l,_,_,rfl,rfl,upd_same,by lia,by lia,by show 1 * _<=_;rw[sizeLine_eq];lia,fun p hp=>?_⟩⟩
  rw[show((n:Int)).toNat=n by lia,rep_zero]
  have sl:=Same.new (o:=.lst [V.int 0]) hl
  have sp:=Same.new (o:=.lst ((List.replicate n (0:Int)).map V.int)) hp
  have s2:=sl.trans sp
  have hp0:H p=none:=sl.free hp
  have gp:(upd (upd H l (.lst [V.int 0])) p (.lst ((List.replicate n (0:Int)).map V.int))) p=_:=upd_same
  generalize (upd (upd H l (.lst [V.int 0])) p (.lst ((List.replicate n (0:Int)).map V.int)))=H1 at s2 gp
  refine⟨_,rfl,_,rfl,ts,a,rfl,⟨_,SqT.of (s2 _ _ h2)⟩,⟨_,SqL.of (s2 _ _ ha)⟩,?_⟩
  have ml:min (bs.map V.ref).length (am.map V.int).length=ties.length:=by rw[List.length_map,List.length_map,h3l,al];lia
  refine for_zip (K:=K) (b1:=true) (b2:=false) (l1:=ts) (l2:=a) (xs:=bs.map V.ref) (ys:=am.map V.int) (fun i σ G=>Ex5 fun(v5 v6 v7 v8:Option V) (gs:List Int)=>σ=[some (.ref t),some (.ref a),some (.int n),some (.ref ts),some (.ref p),v5,v6,v7,v8]/\Same H G/\G p=some (.lst (gs.map V.int))/\gs.length=n/\∀ v:Nat,v<n->gs.getD v 0=Flw.net (ties.take i) (am.take i) v)
   ⟨none,none,none,none,_,rfl,s2,gp,by simp,fun v hv=>by rw[List.take_zero,List.take_zero,List.getD_eq_getElem?_getD,List.getElem?_replicate,if_pos hv];rfl⟩ (fun i σ G _ z=>by obtain⟨_,_,_,_,_,_,s,_⟩:=z;exact⟨SqT.of (s _ _ h2),SqL.of (s _ _ ha)⟩) ?_ ?_
  ·rintro i x y σ G T hx hy ⟨v5,v6,v7,v8,gs,rfl,s3,gpG,gl,gv⟩ hT
   obtain⟨il,e⟩:=List.getElem?_eq_some_iff.mp hx
   rw[List.length_map]at il
   rw[List.getElem_map]at e
   subst e
   obtain⟨il',e⟩:=List.getElem?_eq_some_iff.mp hy
   rw[List.length_map]at il'
   rw[List.getElem_map]at e
   subst e
   have it:i<ties.length:=by lia
   have sT:=Same.new (o:=.tup [V.ref bs[i],V.int am[i]]) hT
   have hx:=sT _ _ (s3 _ _ (Paired.at h3 i il it))
   have gp1:=sT _ _ gpG
   have s4:=s3.trans sT
   obtain⟨o1,o2,o3,o4⟩:=ok _ (List.getElem_mem it)
   generalize ex:ties[i]=x at *
   obtain⟨u,v,c⟩:=x
   have o1:0<=u:=o1
   have o2:u<v:=o2
   have o3:v <(n:Int):=o3
   obtain⟨u,rfl⟩:∃ a':Nat,u=(a':Int):=⟨u.toNat,by lia⟩
   obtain⟨v,rfl⟩:∃ b':Nat,v=(b':Int):=⟨v.toNat,by lia⟩
   have uL:u<gs.length:=by lia
   have vL:v<gs.length:=by lia
   refine⟨T,_,rfl,SqT.of upd_same,rfl,_,_,rfl,bs[i],_,rfl,SqT.of hx,rfl,_,_,rfl,_,_,rfl,_,_,rfl,rfl,_,_,rfl,rfl,?_⟩
   refine⟨_,rfl,_,rfl,p,_,_,_,rfl,rfl,gp1,atI_getD uL,_,rfl,_,_,rfl,rfl,p,_,_,_,rfl,rfl,gp1,by rw[List.length_map];exact ixN_nat uL,?_⟩
   rw[map_setI]
   have vL':v <(gs.set u (gs.getD u 0+am[i])).length:=by rw[List.length_set];exact vL
   refine⟨_,rfl,_,rfl,p,_,_,_,rfl,rfl,upd_same,atI_getD vL',_,rfl,_,_,rfl,rfl,p,_,_,_,rfl,rfl,upd_same,by rw[List.length_map];exact ixN_nat vL',?_⟩
   rw[map_setI]
   refine⟨_,_,_,_,_,rfl,fun b o e=>?_,upd_same,by rw[List.length_set,List.length_set];exact gl,fun z hz=>?_⟩
   ·have bp:b≠p:=ne_of_none e hp0
    rw[upd_ne bp,upd_ne bp]
    exact s4 _ _ e
   ·rw[getD_set vL',getD_set uL,getD_set uL,List.take_succ_eq_append_getElem it,List.take_succ_eq_append_getElem il',net_snoc _ _ _ (by rw[List.length_take,List.length_take];lia),<- gv z hz,ex]
    unfold Flw.netT
    dsimp only
    by_cases e1:z=v
    ·subst e1
     rw[if_pos rfl,if_neg (by lia),if_neg (by lia),if_pos rfl]
     lia
    ·rw[if_neg e1]
     by_cases e2:z=u
     ·subst e2
      rw[if_pos rfl,if_pos rfl,if_neg (by lia)]
      lia
     ·rw[if_neg e2,if_neg (by lia),if_neg (by lia)]
      lia
  ·rintro σ G ⟨v5,v6,v7,v8,gs,rfl,s3,gpG,gl,gv⟩
   rw[ml,List.take_length,<- al,List.take_length]at gv
   exact⟨_,rfl,q p gs G hp0 gpG gl gv s3⟩
end
open PySem L2 PyProof.Rows
noncomputable abbrev tri(x:Flw.Arc):List V:=[.int x.1,.int x.2.1,.int x.2.2]
noncomputable def ArcsOf(H:Hp)(as:List Addr)(g:Int->List Flw.Arc):Prop:=∀ (i:Nat) (h:i<as.length),∃ cs:List Addr,H as[i]=some (.lst (cs.map V.ref))/\Paired (fun c x=>H c=some (.tup (tri x))) cs (g i)
noncomputable abbrev ArcsAt(H:Hp)(as:List Addr)(ties:List Tie):Prop:=ArcsOf H as (Flw.arcAt ties)
theorem ArcsOf.same{H H':Hp}{as:List Addr}{g:Int->List Flw.Arc}(B:ArcsOf H as g)(s:Same H H'):ArcsOf H' as g:=fun i h=>by
 obtain⟨cs,e,p⟩:=B i h
 exact⟨cs,s _ _ e,Paired.mapP p fun c x z=>s _ _ z⟩
theorem ArcsOf.kept{H H':Hp}{as:List Addr}{g:Int->List Flw.Arc}{p:Addr}{o:HO}(B:ArcsOf H as g)(k:Kept p H H')(hp:H p=some o)(hne:∀ xs,o≠.tup xs)(na:p∉as):ArcsOf H' as g:=fun i h=>by
 obtain⟨cs,e,q⟩:=B i h
 exact⟨cs,k _ _ (fun z=>na (z▸List.getElem_mem h)) e,Paired.mapP q fun c x z=>k _ _ (ne_of z hp (fun e=>hne _ e.symm)) z⟩
theorem map_ref_inj{a b:List Addr}(h:a.map V.ref=b.map V.ref):a=b:=List.map_inj_right (fun _ _ h=>by injection h) |>.mp h
theorem ArcsOf.put{H:Hp}{as:List Addr}{g:Int->List Flw.Arc}{j:Nat}{y:Flw.Arc}{tp:Addr}{cs0:List Addr}(nd:as.Nodup)(hj:j<as.length)(B:ArcsOf H as g)(e0:H as[j]=some (.lst (cs0.map V.ref)))(ht:H tp=some (.tup (tri y))) :
  ArcsOf (upd H as[j] (.lst (cs0.map V.ref++[.ref tp]))) as (fun i=>g i++if i=(j:Int)then [y]else []):=fun i h=>by
 obtain⟨cs,e,p⟩:=B i h
 have p2:Paired (fun c (x:Flw.Arc)=>(upd H as[j] (.lst (cs0.map V.ref++[.ref tp]))) c=some (.tup (tri x))) cs (g i):=Paired.mapP p fun c x z=>by rw[upd_ne (ne_of z e0 (by intro z;cases z))];exact z
 by_cases ij:i=j
 ·subst ij
  rw[e]at e0
  have ec:cs0=cs:=by
   injection e0 with e0
   injection e0 with e0
   exact(map_ref_inj e0).symm
  subst ec
  refine⟨cs0++[tp],by rw[upd_same,List.map_append];rfl,?_⟩
  dsimp only
  rw[if_pos rfl]
  exact Paired.snoc p2 (by rw[upd_ne (ne_of ht e (by intro z;cases z))];exact ht)
 ·have ne:as[i]≠as[j]:=fun z=>ij ((List.getElem_inj nd).mp z)
  refine⟨cs,by rw[upd_ne ne];exact e,?_⟩
  dsimp only
  rw[if_neg (by lia),List.append_nil]
  exact p2
inductive spArI(vs:List V)(H:Hp)(Q:VK):Prop where
 |mk (t:Addr) (n:Nat) (ties:List Tie) (h1:vs=[.ref t]) (h2:WebAt H t n ties) (h3:(∀ x∈ties,TieOk n x)) (h4:n<=1000) (h5:∀ (b:Addr) (as:List Addr) (H':Hp),H' b=some (.lst (as.map V.ref))->as.length=n->ArcsAt H' as ties->Same H H'->Q (.ref b) H')
noncomputable def spAr:Sp:=fun vs H Q _=>spArI vs H Q
section
variable{P:Program}{w:World}{K:PySem.W.Frag}{mg:Str->Option Value}{base:Heap}
noncomputable abbrev nAr:List Str:=["web","many","ties","arcs","tie","a","b","weight"]
theorem scAr:FnScope nAr ["web"] (defScope sArcsOf):=⟨rfl,rfl,rfl,by decide +kernel,rfl,by decide +kernel,by decide +kernel⟩
theorem csAr1:CompScope ["place"] [none] nAr (defScope sArcsOf) (scO [(".0",.local),("place",.local)]):=⟨rfl,by decide +kernel,by decide +kernel,by decide +kernel,rfl,capB_ok (by decide +kernel)⟩
theorem ndAr1:(["place"]:List Str).Nodup:=by decide +kernel
theorem ok_ar{f:Addr}{fd:FuncData}(F:Fun K "arcs_of" "arcs_of" sArcsOf f fd)(T:Txt mg)(T2:Txt2 mg):FnOk P w K mg base CX0 1 f fd ["web"] spAr:=by
 refine F.ok scAr (fun vs H Q E h=>?_) (fun cdv A outer s H vs Q E hr h=>?_)
 ·obtain⟨t,n,ties,rfl,_⟩:=h
  rfl
 ·obtain⟨t,n,ties,rfl,W,ok,nb,q⟩:=h
  obtain⟨⟨ts,bs,h1,h2,h3⟩,len⟩:=id W
  have h3l:bs.length=ties.length:=h3.length
  refine⟨_,(pss_cons (ps_asg (pv 0) (pg_tup (n:=2) rfl (pgs_cons (pg_name (i:=1) scAr.nd rfl (Or.inl rfl)) (pgs_cons (pg_name (i:=2) scAr.nd rfl (Or.inl rfl)) pgs_nil))))
   (pss_cons (ps_comp (i:=3) scAr.nd rfl (Or.inl rfl) rfl csAr1 (pi_range1 rfl T.range (@pa_nam _ _ _ _ _ _ (pv 1) pa_nil)) (fun C s H fp=>(pg_name (i:=0) ndAr1 rfl (Or.inl rfl))) (fun C s H fp=>pf_nil) (fun C s H fp=>(@pe_lst _ _ _ _ pa_nil)))
   (pss_cons (ps_for PassesOwn.never rfl (pi_enumB true rfl T2.enum (@pa_nam _ _ _ _ _ _ (pv 2) pa_nil)) (pg_tup (n:=2) rfl (pgs_cons (pg_name (i:=4) scAr.nd rfl (Or.inl rfl)) (pgs_cons (pg_tup (n:=3) rfl (pgs_cons (pg_name (i:=5) scAr.nd rfl (Or.inl rfl)) (pgs_cons (pg_name (i:=6) scAr.nd rfl (Or.inl rfl)) (pgs_cons (pg_name (i:=7) scAr.nd rfl (Or.inl rfl)) pgs_nil)))) pgs_nil)))
   (pss_cons (ps_expr (pe_bmH PySem.F.slot_list_append PySem.F.type_list_append mt_append (@pe_ix _ _ _ _ _ _ _ ix_listH (pv 3) (pv 5) (fun _ _=>rfl)) (@pa_tup _ _ _ _ _ _ _ (@pe_tup _ _ _ _ _ (@pa_nam _ _ _ _ _ _ (pv 4) (@pa_nam _ _ _ _ _ _ (pv 6) (@pa_cst _ _ _ _ _ _ _ pe_int pa_nil)))) pa_nil)))
   (pss_one (ps_expr (pe_bmH PySem.F.slot_list_append PySem.F.type_list_append mt_append (@pe_ix _ _ _ _ _ _ _ ix_listH (pv 3) (pv 6) (fun _ _=>rfl)) (@pa_tup _ _ _ _ _ _ _ (@pe_tup _ _ _ _ _ (@pa_nam _ _ _ _ _ _ (pv 4) (@pa_nam _ _ _ _ _ _ (pv 5) (@pa_un _ _ _ _ _ _ _ (pe_un un_neg pe_int) pa_nil)))) pa_nil))))))
   (pss_one (ps_ret (pv 3)))))),?_⟩
  refine⟨_,rfl,t,_,rfl,SqT.of h1,rfl,_,_,rfl,_,_,rfl,rfl,?_⟩
  refine⟨_,rfl,_,rfl,by lia,by lia,?_⟩
  rw[show((n:Int)).toNat=n by lia]
  refine comp_range (lo:=0) (n:=n) (fun i ys G=>Same H G/\∃ as:List Addr,ys=as.map V.ref/\as.length=i/\as.Nodup/\∀ a∈as,H a=none/\G a=some (.lst [])) (by rw[sizeLine_eq];lia) ⟨Same.refl _,[],rfl,rfl,List.nodup_nil,fun _ h=>nomatch h⟩ ?_ ?_
  ·rintro i ys G hi ⟨sm,as,rfl,al,nd,ha⟩
   refine⟨trivial,tTru_if ⟨(by show 0<=sizeLine;decide),fun l hl=>⟨sm.trans (Same.new hl),as++[l],by rw[List.map_append];rfl,by rw[List.length_append,al];rfl,?_,fun a m=>?_⟩⟩⟩
   ·rw[List.nodup_append]
    refine⟨nd,by simp,fun x hx y hy z=>?_⟩
    rw[List.mem_singleton.mp hy]at z
    have:=(ha x hx).2
    rw[z,hl]at this
    cases this
   ·rcases List.mem_append.mp m with m | m
    ·exact⟨(ha a m).1,(Same.new hl) _ _ (ha a m).2⟩
    ·rw[List.mem_singleton.mp m]
     exact⟨sm.free hl,upd_same⟩
  ·rintro ys G yl ⟨sm,as,rfl,al,nd,ha⟩ D hD
   have sD:=Same.new (o:=.lst (as.map V.ref)) hD
   have smD:=sm.trans sD
   refine⟨_,rfl,ts,rfl,⟨_,SqT.of (smD _ _ h2)⟩,?_⟩
   refine for_enumB (b:=true) (K:=K) (l:=ts) (xs:=bs.map V.ref) (fun i σ G2=>Ex4 fun(v4 v5 v6 v7:Option V)=>σ=[some (.ref t),some (.int n),some (.ref ts),some (.ref D),v4,v5,v6,v7]/\Same H G2/\G2 D=some (.lst (as.map V.ref))/\ArcsAt G2 as (ties.take i)) ⟨none,none,none,none,rfl,smD,upd_same,fun i h=>⟨[],sD _ _ (ha _ (List.getElem_mem h)).2,.nil⟩⟩ (fun i σ G2 _ z=>by obtain⟨_,_,_,_,_,s,_⟩:=z;exact SqT.of (s _ _ h2)) ?_ ?_
   ·rintro i x σ G0 T hx ⟨v4,v5,v6,v7,rfl,s0,gD0,B0⟩ hT
    obtain⟨il,e⟩:=List.getElem?_eq_some_iff.mp hx
    rw[List.length_map]at il
    rw[List.getElem_map]at e
    subst e
    have sT0:=Same.new (o:=.tup [V.int (i:Int),V.ref bs[i]]) hT
    have gT:(upd G0 T (.tup [V.int (i:Int),V.ref bs[i]])) T=some (.tup [V.int (i:Int),V.ref bs[i]]):=upd_same
    have s2:=s0.trans sT0
    have gD:=sT0 _ _ gD0
    have B:=B0.same sT0
    generalize (upd G0 T (.tup [V.int (i:Int),V.ref bs[i]]))=G2 at s2 gD B gT
    have it:i<ties.length:=by lia
    have hx:=s2 _ _ (Paired.at h3 i il it)
    obtain⟨o1,o2,o3,o4⟩:=ok _ (List.getElem_mem it)
    generalize ex:ties[i]=x at *
    obtain⟨a,b,c⟩:=x
    have o1:0<=a:=o1
    have o2:a<b:=o2
    have o3:b <(n:Int):=o3
    obtain⟨a,rfl⟩:∃ a':Nat,a=(a':Int):=⟨a.toNat,by lia⟩
    obtain⟨b,rfl⟩:∃ b':Nat,b=(b':Int):=⟨b.toNat,by lia⟩
    have aL:a<as.length:=by lia
    have bL:b<as.length:=by lia
    have til:(ties.take i).length=i:=by rw[List.length_take];lia
    refine⟨T,_,rfl,SqT.of gT,rfl,_,_,rfl,_,_,rfl,bs[i],_,rfl,SqT.of hx,rfl,_,_,rfl,_,_,rfl,_,_,rfl,rfl,rfl,?_⟩
    obtain⟨ca,ea,pa⟩:=B a aL
    refine⟨_,rfl,_,rfl,D,_,_,_,rfl,rfl,gD,atI_nat (v:=V.ref as[a]) (by rw[List.getElem?_map,List.getElem?_eq_getElem aL];rfl),⟨_,_,rfl,ea⟩,_,rfl,_,rfl,(by show 3<=sizeLine;decide),fun tp htp=>?_⟩
    have sT:=Same.new (o:=.tup [.int (i:Int),.int (b:Int),.int 1]) htp
    have lca:(ca.map V.ref).length<sizeLine:=by
     have l1:=pa.length
     have l2:=Flw.arcsFrom_len a (ties.take i) 0
     unfold Flw.arcAt at l1
     rw[List.length_map,sizeLine_eq]
     lia
    refine⟨as[a],_,_,rfl,rfl,sT _ _ ea,lca,?_⟩
    have B1:=ArcsOf.put (y:=((i:Int),(b:Int),1)) nd aL (B.same sT) (sT _ _ ea) upd_same
    have na:∀ (u:Addr) (o:HO),H u=some o->u≠as[a]:=fun u o e z=>by rw[z,(ha _ (List.getElem_mem aL)).1]at e;cases e
    have nb':∀ (u:Addr) (o:HO),H u=some o->u≠as[b]:=fun u o e z=>by rw[z,(ha _ (List.getElem_mem bL)).1]at e;cases e
    have nD:∀ (j:Nat) (h:j<as.length),D≠as[j]:=fun j h z=>by
     have:=(ha _ (List.getElem_mem h)).2
     rw[<- z,hD]at this
     cases this
    have gD1:(upd (upd G2 tp (.tup [.int (i:Int),.int (b:Int),.int 1])) as[a] (.lst (ca.map V.ref++[.ref tp]))) D=some (.lst (as.map V.ref)):=by rw[upd_ne (nD a aL)];exact sT _ _ gD
    have s3:Same H (upd (upd G2 tp (.tup [.int (i:Int),.int (b:Int),.int 1])) as[a] (.lst (ca.map V.ref++[.ref tp]))):=fun u o e=>by rw[upd_ne (na u o e)];exact sT _ _ (s2 _ _ e)
    generalize (upd (upd G2 tp (.tup [.int (i:Int),.int (b:Int),.int 1])) as[a] (.lst (ca.map V.ref++[.ref tp])))=G3 at B1 gD1 s3
    obtain⟨cb,eb,pb⟩:=B1 b bL
    refine⟨_,rfl,_,rfl,D,_,_,_,rfl,rfl,gD1,atI_nat (v:=V.ref as[b]) (by rw[List.getElem?_map,List.getElem?_eq_getElem bL];rfl),⟨_,_,rfl,eb⟩,_,rfl,_,rfl,_,rfl,(by show 3<=sizeLine;decide),fun tp2 htp2=>?_⟩
    have sT2:=Same.new (o:=.tup [.int (i:Int),.int (a:Int),.int (-1)]) htp2
    have lcb:(cb.map V.ref).length<sizeLine:=by
     have l1:=pb.length
     dsimp only at l1
     rw[List.length_append]at l1
     have l2:=Flw.arcsFrom_len b (ties.take i) 0
     unfold Flw.arcAt at l1
     have l3:(if(b:Int)=(a:Int)then [((i:Int),(b:Int),(1:Int))]else []).length<=1:=by split <;> simp
     rw[List.length_map,sizeLine_eq]
     lia
    refine⟨as[b],_,_,rfl,rfl,sT2 _ _ eb,lcb,?_⟩
    have B2:=ArcsOf.put (y:=((i:Int),(a:Int),-1)) nd bL (B1.same sT2) (sT2 _ _ eb) upd_same
    refine⟨_,_,_,_,rfl,fun u o e=>by rw[upd_ne (nb' u o e)];exact sT2 _ _ (s3 _ _ e),by rw[upd_ne (nD b bL)];exact sT2 _ _ gD1,fun i' h'=>?_⟩
    obtain⟨cs,e,p⟩:=B2 i' h'
    refine⟨cs,e,?_⟩
    rw[List.take_succ_eq_append_getElem it,Flw.arcAt_snoc,ex,til]
    exact p
   ·rintro σ G2 ⟨v4,v5,v6,v7,rfl,s2,gD,B⟩
    rw[List.length_map,h3l,List.take_length]at B
    exact⟨_,rfl,q D as G2 gD al B s2⟩
end
open PySem L2 PyProof.Rows
noncomputable def StepV(H:Hp)(v:V):Option (Int×Int×Int)->Prop
 |none=>v = .non
 |some x=>∃ c,v = .ref c/\H c=some (.tup (tri x))
noncomputable def TrAt(H:Hp)(kvs:List (Key×V))(tr:Flw.Tr):Prop:=Paired (fun kv x=>kv.1=Sum.inl x.1/\StepV H kv.2 x.2) kvs tr
theorem StepV.same{H H':Hp}{v:V}{o:Option (Int×Int×Int)}(h:StepV H v o)(s:∀ c xs,H c=some (.tup xs)->H' c=some (.tup xs)):StepV H' v o:=by
 cases o with
 |none=>exact h
 |some x=>obtain⟨c,e,g⟩:=h;exact⟨c,e,s _ _ g⟩
theorem TrAt.tups{H H':Hp}{kvs:List (Key×V)}{tr:Flw.Tr}(h:TrAt H kvs tr)(s:∀ c xs,H c=some (.tup xs)->H' c=some (.tup xs)):TrAt H' kvs tr:=Paired.mapP h fun _ _ z=>⟨z.1,z.2.same s⟩
theorem TrAt.keys{H:Hp}{kvs:List (Key×V)}{tr:Flw.Tr}(h:TrAt H kvs tr):kvs.map (·.1)=(Flw.keys tr).map Sum.inl:=by
 induction h with
 |nil=>rfl
 | @cons kv x kvs tr a b ih =>
  rw[List.map_cons,ih,a.1]
  rfl
theorem TrAt.none{H:Hp}{kvs:List (Key×V)}{tr:Flw.Tr}(h:TrAt H kvs tr){e:Int}(he:e∉Flw.keys tr):valV kvs (Sum.inl e)=none:=valV_no (by
 rw[h.keys]
 intro m
 obtain⟨x,hx,ex⟩:=List.mem_map.mp m
 injection ex with ex
 exact he (ex▸hx))
theorem TrAt.some{H:Hp}{kvs:List (Key×V)}{tr:Flw.Tr}(h:TrAt H kvs tr)(nd:(Flw.keys tr).Nodup){e:Int}{o:Option (Int×Int×Int)}(he:(e,o)∈tr):∃ v,valV kvs (Sum.inl e)=some v/\StepV H v o:=by
 induction h with
 |nil=>cases he
 | @cons kv x kvs tr a b ih =>
  have nd:x.1∉Flw.keys tr/\(Flw.keys tr).Nodup:=List.nodup_cons.mp nd
  rcases List.mem_cons.mp he with z | z
  ·subst z
   exact⟨kv.2,valV_pos a.1,a.2⟩
  ·rw[valV_neg]
   ·exact ih nd.2 z
   ·intro w
    rw[a.1]at w
    injection w with w
    exact nd.1 (w▸Flw.mem_keys z)
theorem TrAt.snoc{H:Hp}{kvs:List (Key×V)}{tr:Flw.Tr}(h:TrAt H kvs tr){e:Int}{v:V}{o:Option (Int×Int×Int)}(he:e∉Flw.keys tr)(hv:StepV H v o):TrAt H (putK kvs (Sum.inl e) v) (tr++[(e,o)]):=by
 rw[putK_new v (h.none he)]
 exact Paired.snoc h ⟨rfl,hv⟩
theorem same_put{H G:Hp}{d:Addr}{o:HO}(s:Same H G)(h:H d=none):Same H (upd G d o):=fun b u e=>by
 rw[upd_ne (ne_of_none e h)]
 exact s _ _ e
inductive spTrI(vs:List V)(H:Hp)(Q:VK):Prop where
 |mk (t ar a q:Addr) (n:Nat) (ties:List Tie) (as:List Addr) (am:List Int) (b:Bool) (S:List Int) (turn:Int) (h1:vs=[.ref t,.ref ar,.ref a,.ref q,.int turn]) (h2:WebAt H t n ties) (h3:(∀ x∈ties,TieOk n x)) (h4:n<=1000) (h5:H ar=some (.lst (as.map V.ref))) (h6:as.length=n) (h7:ArcsAt H as ties) (h8:H a=some (.lst (am.map V.int))) (h9:am.length=ties.length) (h10:H q=some (sqO b (S.map V.int))) (h11:(∀ s∈S,0<=s/\s<n)) (h12:S.Nodup) (h13:(turn=1\/turn = -1)) (h14:∀ (d:Addr) (kvs:List (Key×V)) (H':Hp),H d=none->H' d=some (.dK kvs)->TrAt H' kvs (Flw.trails n ties am turn S)->Same H H'->Q (.ref d) H')
noncomputable def spTr:Sp:=fun vs H Q _=>spTrI vs H Q
theorem tie_at{H:Hp}{ts:Addr}{bs:List Addr}{ties:List Tie}(h3:Paired (fun a x=>H a=some (.tup (tieV x))) bs ties){j:Nat}(hj:j<ties.length):∃ c,atI (bs.map V.ref) (j:Int)=some (V.ref c)/\H c=some (.tup (tieV ties[j])):=by
 have bl:j<bs.length:=by rw[h3.length];exact hj
 exact⟨bs[j],atI_nat (by rw[List.getElem?_map,List.getElem?_eq_getElem bl];rfl),Paired.at h3 j bl hj⟩
section
variable{P:Program}{w:World}{K:PySem.W.Frag}{mg:Str->Option Value}{base:Heap}
noncomputable abbrev nTr:List Str:=["web","arcs","amounts","starts","turn","ties","trails","waiting","met","place","tie","far","sign"]
theorem scTr:FnScope nTr ["web","arcs","amounts","starts","turn"] (defScope sTrailsFrom):=⟨rfl,rfl,rfl,by decide +kernel,rfl,by decide +kernel,by decide +kernel⟩
theorem csTr1:CompScope ["start"] [none] nTr (defScope sTrailsFrom) (scO [(".0",.local),("start",.local)]):=⟨rfl,by decide +kernel,by decide +kernel,by decide +kernel,rfl,capB_ok (by decide +kernel)⟩
theorem ndTr1:(["start"]:List Str).Nodup:=by decide +kernel
theorem ok_tr{f:Addr}{fd:FuncData}(F:Fun K "trails_from" "trails_from" sTrailsFrom f fd)(T:Txt mg):FnOk P w K mg base CX0 1 f fd ["web","arcs","amounts","starts","turn"] spTr:=by
 refine F.ok scTr (fun vs H Q E h=>?_) (fun cdv A outer s H vs Q E hr h=>?_)
 ·obtain⟨t,ar,a,q,n,ties,as,am,b,S,turn,rfl,_⟩:=h
  rfl
 ·obtain⟨t,ar,a,q,n,ties,as,am,b,S,turn,rfl,W,ok,nb,har,al,B,ha,aml,hq,sr,sn,tn,fin⟩:=h
  obtain⟨⟨ts,bs,h1,h2,h3⟩,len⟩:=id W
  have h3l:bs.length=ties.length:=h3.length
  have sl:S.length<=n:=Flw.nodup_len sn sr
  have hu:=hu_of hr
  have hu0:=Nat.lt_of_succ_lt hu
  refine⟨_,(pss_cons (ps_set (i:=5) scTr.nd rfl (Or.inl rfl) (@pe_ix _ _ _ _ _ _ _ ix_tupH (pv 0) pe_int (fun _ _=>rfl)))
   (pss_cons (ps_dcomp (i:=6) scTr.nd rfl (Or.inl rfl) false hu0 rfl csTr1 (pi_seq b (pv 3)) (fun C s H fp=>(pg_name (i:=0) ndTr1 rfl (Or.inl rfl))) (fun C s H fp=>pf_nil) (fun C s H fp=>(pv 0)) (fun C s H fp=>pe_non))
   (pss_cons (ps_set (i:=7) scTr.nd rfl (Or.inl rfl) (pe_callTy (call_listH b) (by rfl) T.list boot_list (@pa_nam _ _ _ _ _ _ (pv 3) pa_nil)))
   (pss_cons (ps_set (i:=8) scTr.nd rfl (Or.inl rfl) pe_int)
   (pss_cons (ps_while PassesOwn.never (pt_cmpR op_lt (pv 8) (pe_callB call_lenH (by rfl) T.len PySem.boot_len (@pa_nam _ _ _ _ _ _ (pv 7) pa_nil)) (nomark _)) (pss_cons (ps_set (i:=9) scTr.nd rfl (Or.inl rfl) (@pe_ix _ _ _ _ _ _ _ ix_listH (pv 7) (pv 8) (fun _ _=>rfl)))
   (pss_cons (ps_aug (i:=8) scTr.nd rfl (Or.inl rfl) pe_int ip_add)
   (pss_one (ps_for PassesOwn.never rfl (pi_list (@pe_ix _ _ _ _ _ _ _ ix_listH (pv 1) (pv 9) (fun _ _=>rfl))) (pg_tup (n:=3) rfl (pgs_cons (pg_name (i:=10) scTr.nd rfl (Or.inl rfl)) (pgs_cons (pg_name (i:=11) scTr.nd rfl (Or.inl rfl)) (pgs_cons (pg_name (i:=12) scTr.nd rfl (Or.inl rfl)) pgs_nil))))
   (pss_one (ps_if (PW.pt (pw_and (pt_cmp (pc_dnotin hu (pv 11) (pv 6))) (pw_and1 (pt_cmpR op_gt (pe_op op_sub (@pe_ix _ _ _ _ _ _ _ ix_tupH (@pe_ix _ _ _ _ _ _ _ ix_tupH (pv 5) (pv 10) (fun _ _=>rfl)) pe_int (fun _ _=>rfl)) (pe_op op_mul (pe_op op_mul (pv 4) (pv 12)) (@pe_ix _ _ _ _ _ _ _ ix_listH (pv 2) (pv 10) (fun _ _=>rfl)))) pe_int (nomark _))))) (pss_cons (ps_dput hu (pv 6) (pv 11) (@pe_tup _ _ _ _ _ (@pa_nam _ _ _ _ _ _ (pv 9) (@pa_nam _ _ _ _ _ _ (pv 10) (@pa_nam _ _ _ _ _ _ (pv 12) pa_nil)))) rfl)
   (pss_one (ps_expr (pe_bmH PySem.F.slot_list_append PySem.F.type_list_append mt_append (pv 7) (@pa_nam _ _ _ _ _ _ (pv 11) pa_nil))))) pss_nil)))))))
   (pss_one (ps_ret (pv 6)))))))),?_⟩
  refine⟨_,rfl,t,_,_,_,rfl,rfl,h1,rfl,?_⟩
  refine⟨_,rfl,q,rfl,⟨_,sqB_of hq⟩,fun d hd=>?_⟩
  refine dcomp_seq (b:=b) (K:=K) (a:=q) (xs:=S.map V.int) (D:=d) (fun i G=>∃ kvs,G d=some (.dK kvs)/\TrAt G kvs (Flw.begin_ (S.take i))/\Same H G) ⟨[],upd_same,.nil,Same.new hd⟩ (fun i G _ z=>by obtain⟨_,_,_,s0⟩:=z;exact sqB_of (s0 _ _ hq)) ?_ ?_
  ·rintro i x G hx ⟨kvs,gd,tr,sG⟩
   obtain⟨il,e⟩:=List.getElem?_eq_some_iff.mp hx
   rw[List.length_map]at il
   rw[List.getElem_map]at e
   subst e
   have kl:kvs.length<=1000:=by
    have:=tr.length
    unfold Flw.begin_ at this
    rw[List.length_map,List.length_take]at this
    lia
   have no:S[i]∉Flw.keys (Flw.begin_ (S.take i)):=by
    rw[Flw.keys_begin]
    intro m
    obtain⟨j,hj,e⟩:=List.getElem_of_mem m
    rw[List.length_take]at hj
    rw[List.getElem_take]at e
    have:=(List.getElem_inj sn).mp e
    lia
   refine⟨trivial,tTru_if ⟨_,rfl,_,DPut.k (k:=Sum.inl S[i]) gd (by rw[sizeLine_eq];lia),_,upd_same,?_,same_put sG hd⟩⟩
   have tr':=TrAt.snoc (o:=none) (v:=.non) tr no rfl
   have eb:Flw.begin_ (S.take (i+1))=Flw.begin_ (S.take i)++[(S[i],none)]:=by
    unfold Flw.begin_
    rw[List.take_succ_eq_append_getElem il,List.map_append]
    rfl
   rw[eb]
   exact tr'.tups fun c xs z=>by rw[upd_ne (ne_of z gd (by intro z;cases z))];exact z
  rintro G ⟨kvs,gd,tr,sG⟩
  rw[List.length_map,List.take_length]at tr
  refine⟨_,rfl,q,_,rfl,sG _ _ hq,fun wl hwl=>?_⟩
  have sw:=Same.new (o:=.lst (S.map V.int)) hwl
  have wd:wl≠d:=fun z=>by rw[z,gd]at hwl;cases hwl
  have wl0:H wl=none:=sG.free hwl
  have TB:=Flw.trOk_begin (ties:=ties) (am:=am) (turn:=turn) sn
  refine⟨fun m σ G=>∃ (met:Nat) (tr:Flw.Tr) (kvs:List (Key×V)) (v9 v10 v11 v12:Option V),σ=[some (.ref t),some (.ref ar),some (.ref a),some (.ref q),some (.int turn),some (.ref ts),some (.ref d),some (.ref wl),some (.int met),v9,v10,v11,v12]/\m=n-met/\met<=tr.length/\G d=some (.dK kvs)/\TrAt G kvs tr/\G wl=some (.lst ((Flw.keys tr).map V.int))/\Flw.TrOk ties am turn S tr/\Flw.bfs ties am turn (n-met) met tr=Flw.trails n ties am turn S/\Same H G,
   ⟨_,0,Flw.begin_ S,kvs,none,none,none,none,rfl,rfl,Nat.zero_le _,sw _ _ gd,tr.tups fun c xs z=>sw _ _ z,by rw[upd_same,Flw.keys_begin],TB,rfl,sG.trans sw⟩,?_⟩
  clear hwl sw tr gd sG kvs TB
  rintro m σ G ⟨met,tr,kvs,v9,v10,v11,v12,rfl,rfl,mt,gd,TA,gw,TO,eb,sG⟩
  have tl:tr.length<=n:=TO.len ok sr
  have kl:(Flw.keys tr).length=tr.length:=by unfold Flw.keys;rw[List.length_map]
  refine⟨_,rfl,_,rfl,wl,_,rfl,gw,_,_,rfl,rfl,_,rfl,ite2 (fun hc=>?_) (fun hc=>?_)⟩
  ·have hc:met<tr.length:=by
    have:=of_decide_eq_true hc
    rw[List.length_map,kl]at this
    lia
   refine⟨fun σ' G'=>∃ m',m'<n-met/\∃ (met:Nat) (tr:Flw.Tr) (kvs:List (Key×V)) (v9 v10 v11 v12:Option V),σ'=[some (.ref t),some (.ref ar),some (.ref a),some (.ref q),some (.int turn),some (.ref ts),some (.ref d),some (.ref wl),some (.int met),v9,v10,v11,v12]/\m'=n-met/\met<=tr.length/\G' d=some (.dK kvs)/\TrAt G' kvs tr/\G' wl=some (.lst ((Flw.keys tr).map V.int))/\Flw.TrOk ties am turn S tr/\Flw.bfs ties am turn (n-met) met tr=Flw.trails n ties am turn S/\Same H G',fun σ' G' z=>z,?_⟩
   have pk:tr[met].1∈Flw.keys tr:=List.mem_map.mpr ⟨_,List.getElem_mem hc,rfl⟩
   obtain⟨p0,p1⟩:=TO.rng ok sr _ pk
   have eb':Flw.bfs ties am turn (n-(met+1)) (met+1) (Flw.visit ties am turn tr[met].1 tr (Flw.arcAt ties tr[met].1))=Flw.trails n ties am turn S:=by
    rw[<- eb,show n-met=(n-(met+1))+1 by lia]
    show _=(match tr[met]? with | none=>tr | some x=>Flw.bfs ties am turn (n-(met+1)) (met+1) (Flw.visit ties am turn x.1 tr (Flw.arcAt ties x.1)))
    rw[List.getElem?_eq_getElem hc]
   have atw:atI ((Flw.keys tr).map V.int) (met:Int)=some (V.int tr[met].1):=atI_nat (by rw[List.getElem?_map];unfold Flw.keys;rw[List.getElem?_map,List.getElem?_eq_getElem hc];rfl)
   refine⟨_,rfl,_,rfl,wl,_,_,_,rfl,rfl,gw,atw,?_⟩
   refine⟨_,rfl,_,_,rfl,rfl,?_⟩
   generalize tr[met].1=pl at *
   obtain⟨pl,rfl⟩:∃ j:Nat,pl=(j:Int):=⟨pl.toNat,by lia⟩
   have pL:pl<as.length:=by lia
   obtain⟨cs,ec,pc⟩:=B pl pL
   refine⟨_,rfl,_,rfl,ar,_,_,_,rfl,rfl,sG _ _ har,atI_nat (v:=V.ref as[pl]) (by rw[List.getElem?_map,List.getElem?_eq_getElem pL];rfl),as[pl],rfl,⟨_,SqL.of (sG _ _ ec)⟩,?_⟩
   have vk:∀ j,Flw.TrOk ties am turn S (Flw.visit ties am turn pl tr ((Flw.arcAt ties pl).take j))/\(∃ l,Flw.visit ties am turn pl tr ((Flw.arcAt ties pl).take j)=tr++l):=fun j=>by
    obtain⟨x,y,_⟩:=Flw.visit_ok (xs:=(Flw.arcAt ties pl).take j) TO pk fun x hx=>List.mem_of_mem_take hx
    exact⟨x,y⟩
   refine for_list (K:=K) (a:=as[pl]) (xs:=cs.map V.ref) (fun j σ' G'=>∃ (kvs:List (Key×V)) (v10 v11 v12:Option V),σ'=[some (.ref t),some (.ref ar),some (.ref a),some (.ref q),some (.int turn),some (.ref ts),some (.ref d),some (.ref wl),some (.int ((met:Int)+1)),some (.int pl),v10,v11,v12]/\G' d=some (.dK kvs)/\TrAt G' kvs (Flw.visit ties am turn pl tr ((Flw.arcAt ties pl).take j))/\G' wl=some (.lst ((Flw.keys (Flw.visit ties am turn pl tr ((Flw.arcAt ties pl).take j))).map V.int))/\Same H G')
    ⟨kvs,_,_,_,rfl,gd,TA,gw,sG⟩ (fun j σ' G' _ z=>by obtain⟨_,_,_,_,_,_,_,_,s⟩:=z;exact SqL.of (s _ _ ec)) ?_ ?_
   ·clear gd TA gw sG v10 v11 v12
    rintro j x σ' G' hx ⟨kvs,v10,v11,v12,rfl,gd,TA,gw,sG⟩
    obtain⟨il,e⟩:=List.getElem?_eq_some_iff.mp hx
    rw[List.length_map]at il
    rw[List.getElem_map]at e
    subst e
    have jl:j <(Flw.arcAt ties pl).length:=by rw[<- pc.length];exact il
    have hc':=sG _ _ (Paired.at pc j il jl)
    have mem:(Flw.arcAt ties pl)[j]∈Flw.arcAt ties pl:=List.getElem_mem jl
    obtain⟨TO1,_⟩:=vk j
    obtain⟨TO2,_⟩:=vk (j+1)
    have ev:Flw.visit ties am turn pl tr ((Flw.arcAt ties pl).take (j+1))=Flw.addA ties am turn pl (Flw.visit ties am turn pl tr ((Flw.arcAt ties pl).take j)) (Flw.arcAt ties pl)[j]:=by
     rw[List.take_succ_eq_append_getElem jl]
     unfold Flw.visit
     rw[List.foldl_append]
     rfl
    rw[ev]at TO2
    rw[ev]
    generalize Flw.visit ties am turn pl tr ((Flw.arcAt ties pl).take j)=tr1 at *
    obtain⟨i,hi,ei,q4⟩:=Flw.mem_arc.mp mem
    have fr:=Flw.far_ok (n:=n) ok mem
    generalize (Flw.arcAt ties pl)[j]=x at *
    obtain⟨x1,fa,sg⟩:=x
    have ei:x1=(i:Int):=ei
    subst ei
    have sg1:sg=1\/sg = -1:=by
     rcases q4 with⟨_,z⟩ |⟨_,z⟩
     ·exact .inl (by injection z)
     ·exact .inr (by injection z)
    obtain⟨c,atc,gc⟩:=tie_at (ts:=ts) (Paired.mapP h3 fun a x z=>sG _ _ z) hi
    have rm:Flw.room ties am turn ((i:Int),fa,sg)=ties[i].2.2-turn * sg * am.getD i 0:=by
     unfold Flw.room
     dsimp only
     rw[Flw.wAt_nat hi,Flw.aAt_nat]
    have b1:-(2 ^ 64)<turn * sg/\turn * sg<2 ^ 64:=by
     rcases tn with z | z <;> rcases sg1 with y | y <;> rw[z,y] <;> decide
    have b0:-(2 ^ 64)<turn/\turn<2 ^ 64:=by
     rcases tn with z | z <;> rw[z] <;> decide
    have tl1:tr1.length<=n:=TO1.len ok sr
    have kvl:kvs.length<=n:=by rw[TA.length];exact tl1
    refine⟨cs[j],_,rfl,SqT.of hc',rfl,_,_,rfl,_,_,rfl,_,_,rfl,rfl,?_⟩
    refine⟨_,rfl,_,rfl,d,_,rfl,DGet.k (k:=Sum.inl fa) gd,_,rfl,?_⟩
    by_cases kf:fa∈Flw.keys tr1
    ·obtain⟨y,hy,ey⟩:=List.mem_map.mp kf
     obtain⟨v,ev',_⟩:=TA.some TO1.nd (e:=fa) (o:=y.2) (by rw[<- ey];exact hy)
     rw[ev']
     refine iteF (iteF ?_)
     have:Flw.addA ties am turn pl tr1 ((i:Int),fa,sg)=tr1:=if_neg fun z=>z.1 kf
     rw[this]
     exact⟨kvs,_,_,_,rfl,gd,TA,gw,sG⟩
    ·rw[TA.none kf]
     refine iteT ?_
     refine⟨_,rfl,_,rfl,ts,_,_,_,rfl,rfl,sG _ _ h2,atc,c,_,_,_,rfl,rfl,gc,rfl,_,rfl,_,rfl,_,_,rfl,rfl,.inl b0,_,rfl,_,rfl,a,_,_,_,rfl,rfl,sG _ _ ha,atI_getD (by lia),_,_,rfl,rfl,.inl b1,_,_,rfl,rfl,_,_,rfl,rfl,_,rfl,ite2 (fun hz=>?_) (fun hz=>?_)⟩
     ·have hz:0<Flw.room ties am turn ((i:Int),fa,sg):=by rw[rm];exact of_decide_eq_true hz
      refine⟨_,rfl,_,rfl,_,rfl,(by show 3<=sizeLine;decide),fun tp htp=>?_⟩
      have sT:=Same.new (o:=.tup [.int (pl:Int),.int (i:Int),.int sg]) htp
      have gd1:=sT _ _ gd
      refine⟨_,rfl,_,rfl,d,_,rfl,DPut.k (k:=Sum.inl fa) gd1 (by rw[sizeLine_eq];lia),?_⟩
      have tpd:tp≠d:=fun z=>by rw[z,gd]at htp;cases htp
      have gw1:(upd (upd G' tp (.tup [.int (pl:Int),.int (i:Int),.int sg])) d (.dK (putK kvs (Sum.inl fa) (.ref tp)))) wl=some (.lst ((Flw.keys tr1).map V.int)):=by rw[upd_ne wd];exact sT _ _ gw
      refine⟨_,rfl,⟨_,_,rfl,gw1⟩,_,rfl,wl,_,_,rfl,rfl,gw1,by rw[List.length_map];unfold Flw.keys;rw[List.length_map,sizeLine_eq];lia,?_⟩
      have:Flw.addA ties am turn pl tr1 ((i:Int),fa,sg)=tr1++[(fa,some ((pl:Int),(i:Int),sg))]:=if_pos ⟨kf,hz⟩
      rw[this]
      refine⟨putK kvs (Sum.inl fa) (.ref tp),_,_,_,rfl,by rw[upd_ne (Ne.symm wd),upd_same],?_,by rw[upd_same,Flw.keys_app,List.map_append];rfl,same_put (same_put (sG.trans sT) hd) wl0⟩
      refine(TrAt.snoc (TA.tups fun c xs z=>sT _ _ z) kf (o:=some ((pl:Int),(i:Int),sg)) (v:=.ref tp) ⟨tp,rfl,upd_same⟩).tups fun c xs z=>?_
      rw[upd_ne (ne_of z (sT _ _ gw) (by intro z;cases z)),upd_ne (ne_of z gd1 (by intro z;cases z))]
      exact z
     ·have hz:¬ 0<Flw.room ties am turn ((i:Int),fa,sg):=by rw[rm];exact fun w=>hz (decide_eq_true w)
      have:Flw.addA ties am turn pl tr1 ((i:Int),fa,sg)=tr1:=if_neg fun z=>hz z.2
      rw[this]
      exact⟨kvs,_,_,_,rfl,gd,TA,gw,sG⟩
   ·rintro σ' G' ⟨kvs,v10,v11,v12,rfl,gd,TA,gw,sG⟩
    obtain⟨TO2,l,el⟩:=vk (cs.map V.ref).length
    have tk:(Flw.arcAt ties pl).take (cs.map V.ref).length=Flw.arcAt ties pl:=by rw[List.length_map,pc.length,List.take_length]
    rw[tk]at TA gw TO2 el
    refine⟨n-(met+1),by lia,met+1,_,kvs,_,_,_,_,rfl,rfl,by rw[el,List.length_append];lia,gd,TA,gw,TO2,eb',sG⟩
  ·have hc:tr.length<=met:=by
    have:(Flw.keys tr).length<=met:=by simpa using hc
    lia
   have e1:Flw.bfs ties am turn (n-met) met tr=tr:=by
    cases n-met with
    |zero=>rfl
    |succ k =>
     show(match tr[met]? with | none=>tr | some x=>_)=tr
     rw[List.getElem?_eq_none hc]
   rw[e1]at eb
   subst eb
   exact⟨_,rfl,fin d kvs G hd gd TA sG⟩
end
open PySem L2 PyProof.Rows
noncomputable abbrev WayAt(H:Hp)(cs:List Addr)(w:List (Int×Int)):Prop:=Paired (fun c (x:Int×Int)=>H c=some (.tup [.int x.1,.int x.2])) cs w
inductive spWyI(vs:List V)(H:Hp)(Q:VK):Prop where
 |mk (d:Addr) (e:Int) (kvs:List (Key×V)) (ties:List Tie) (am S:List Int) (turn:Int) (tr:Flw.Tr) (h1:vs=[.ref d,.int e]) (h2:Rd H d (.dK kvs)) (h3:TrAt H kvs tr) (h4:Flw.TrOk ties am turn S tr) (h5:e∈Flw.keys tr) (h6:tr.length<=1000) (h7:∀ (wl:Addr) (cs:List Addr) (H':Hp),H wl=none->H' wl=some (.lst (cs.map V.ref))->WayAt H' cs (Flw.way tr e)->Same H H'->Q (.ref wl) H')
noncomputable def spWy:Sp:=fun vs H Q _=>spWyI vs H Q
theorem rd_same{H H':Hp}{d:Addr}{u:HO}(h:Rd H d u)(s:Same H H'):Rd H' d u:=by
 rcases h with h |⟨o,h⟩
 ·exact .inl (s _ _ h)
 ·exact .inr ⟨o,s _ _ h⟩
theorem mem_of_key{tr:Flw.Tr}{e:Int}(h:e∈Flw.keys tr):∃ o,(e,o)∈tr:=by
 obtain⟨y,hy,ey⟩:=List.mem_map.mp h
 exact⟨y.2,by rw[<- ey];exact hy⟩
theorem getD_of{H:Hp}{d:Addr}{kvs:List (Key×V)}{e:Int}{v:V}(h:Rd H d (.dK kvs))(ev:valV kvs (Sum.inl e)=some v):DGet H d (.int e) (some v):=by
 rw[<- ev]
 exact DGet.rd (k:=Sum.inl e) h
section
variable{P:Program}{w:World}{K:PySem.W.Frag}{mg:Str->Option Value}{base:Heap}
noncomputable abbrev nWy:List Str:=["trails","end","way","step","place","tie","sign"]
theorem scWy:FnScope nWy ["trails","end"] (defScope sWayTo):=⟨rfl,rfl,rfl,by decide +kernel,rfl,by decide +kernel,by decide +kernel⟩
theorem ok_wy{f:Addr}{fd:FuncData}(F:Fun K "way_to" "way_to" sWayTo f fd):FnOk P w K mg base CX0 1 f fd ["trails","end"] spWy:=by
 refine F.ok scWy (fun vs H Q E h=>?_) (fun cdv A outer s H vs Q E hr h=>?_)
 ·obtain⟨d,e,kvs,ties,am,S,turn,tr,rfl,_⟩:=h
  rfl
 ·obtain⟨d,e,kvs,ties,am,S,turn,tr,rfl,hd,TA,TO,ek,tl,fin⟩:=h
  have hu:=hu_of hr
  refine⟨_,(pss_cons (ps_set (i:=2) scWy.nd rfl (Or.inl rfl) (@pe_lst _ _ _ _ pa_nil))
   (pss_cons (ps_set (i:=3) scWy.nd rfl (Or.inl rfl) (pe_dget hu (pv 0) (pv 1) (fun _ _=>rfl)))
   (pss_cons (ps_while PassesOwn.never (pt_cmp (pc_notN (pv 3))) (pss_cons (ps_asg (pv 3) (pg_tup (n:=3) rfl (pgs_cons (pg_name (i:=4) scWy.nd rfl (Or.inl rfl)) (pgs_cons (pg_name (i:=5) scWy.nd rfl (Or.inl rfl)) (pgs_cons (pg_name (i:=6) scWy.nd rfl (Or.inl rfl)) pgs_nil)))))
   (pss_cons (ps_expr (pe_bmH PySem.F.slot_list_append PySem.F.type_list_append mt_append (pv 2) (@pa_tup _ _ _ _ _ _ _ (@pe_tup _ _ _ _ _ (@pa_nam _ _ _ _ _ _ (pv 5) (@pa_nam _ _ _ _ _ _ (pv 6) pa_nil))) pa_nil)))
   (pss_one (ps_set (i:=3) scWy.nd rfl (Or.inl rfl) (pe_dget hu (pv 0) (pv 4) (fun _ _=>rfl)))))))
   (pss_one (ps_ret (pv 2)))))),?_⟩
  refine⟨(by show 0<=sizeLine;decide),fun wl hwl=>?_⟩
  have sw:=Same.new (o:=.lst []) hwl
  obtain⟨o,ho⟩:=mem_of_key ek
  obtain⟨sv,ev,hv⟩:=TA.some TO.nd ho
  refine⟨_,rfl,_,rfl,d,sv,rfl,getD_of (rd_same hd sw) ev,?_⟩
  refine⟨fun m σ G=>∃ (cur:Int) (o:Option (Int×Int×Int)) (sv:V) (cs:List Addr) (acc:List (Int×Int)) (v4 v5 v6:Option V),σ=[some (.ref d),some (.int e),some (.ref wl),some sv,v4,v5,v6]/\m=(Flw.way tr cur).length/\(cur,o)∈tr/\StepV H sv o/\G wl=some (.lst (cs.map V.ref))/\WayAt G cs acc/\acc++Flw.way tr cur=Flw.way tr e/\Same H G,
   ⟨_,e,o,sv,[],[],none,none,none,rfl,rfl,ho,hv,upd_same,.nil,rfl,sw⟩,?_⟩
  clear ho ev hv
  rintro m σ G ⟨cur,o,sv,cs,acc,v4,v5,v6,rfl,rfl,ho,hv,gw,wa,ew,sG⟩
  have we:=Flw.way_eq TO cur o ho
  refine⟨_,rfl,_,rfl,?_⟩
  cases o with
  |none =>
   have hv:sv = .non:=hv
   subst hv
   refine iteF ?_
   dsimp only at we
   rw[we,List.append_nil]at ew
   exact⟨_,rfl,fin wl cs G hwl gw (ew▸wa) sG⟩
  |some x =>
   obtain⟨c,rfl,gc⟩:=hv
   obtain⟨p,t,sg⟩:=x
   dsimp only at we
   refine iteT ?_
   refine⟨fun σ' G'=>∃ m',m' <(Flw.way tr cur).length/\∃ (cur:Int) (o:Option (Int×Int×Int)) (sv:V) (cs:List Addr) (acc:List (Int×Int)) (v4 v5 v6:Option V),σ'=[some (.ref d),some (.int e),some (.ref wl),some sv,v4,v5,v6]/\m'=(Flw.way tr cur).length/\(cur,o)∈tr/\StepV H sv o/\G' wl=some (.lst (cs.map V.ref))/\WayAt G' cs acc/\acc++Flw.way tr cur=Flw.way tr e/\Same H G',fun σ' G' z=>z,?_⟩
   refine⟨_,rfl,c,_,rfl,SqT.of (sG _ _ gc),rfl,_,_,rfl,_,_,rfl,_,_,rfl,rfl,?_⟩
   have cl:cs.length<=tr.length:=by
    have:=wa.length
    have h1:=congrArg List.length ew
    rw[List.length_append]at h1
    have:=Flw.way_len tr e
    lia
   refine⟨_,rfl,⟨_,_,rfl,gw⟩,_,rfl,_,rfl,(by show 2<=sizeLine;decide),fun tp htp=>?_⟩
   have sT:=Same.new (o:=.tup [.int t,.int sg]) htp
   have gw1:=sT _ _ gw
   refine⟨wl,_,_,rfl,rfl,gw1,by rw[List.length_map,sizeLine_eq];lia,?_⟩
   have s2:Same H (upd (upd G tp (.tup [.int t,.int sg])) wl (.lst (cs.map V.ref++[.ref tp]))):=fun b u z=>by
    rw[upd_ne (ne_of_none z hwl)]
    exact sT _ _ (sG _ _ z)
   have tw:tp≠wl:=fun z=>by rw[z,gw]at htp;cases htp
   have wa1:WayAt (upd (upd G tp (.tup [.int t,.int sg])) wl (.lst (cs.map V.ref++[.ref tp]))) (cs++[tp]) (acc++[(t,sg)]):=by
    refine Paired.snoc (Paired.mapP wa fun c x z=>?_) ?_
    ·rw[upd_ne (ne_of z gw (by intro z;cases z))];exact sT _ _ z
    ·rw[upd_ne tw,upd_same]
   have gw2:(upd (upd G tp (.tup [.int t,.int sg])) wl (.lst (cs.map V.ref++[.ref tp]))) wl=some (.lst ((cs++[tp]).map V.ref)):=by rw[upd_same,List.map_append];rfl
   generalize (upd (upd G tp (.tup [.int t,.int sg])) wl (.lst (cs.map V.ref++[.ref tp])))=G2 at s2 wa1 gw2
   have pk:=TO.par _ _ _ _ ho
   obtain⟨o',ho'⟩:=mem_of_key pk
   obtain⟨sv',ev',hv'⟩:=TA.some TO.nd ho'
   refine⟨_,rfl,_,rfl,d,sv',rfl,getD_of (rd_same hd s2) ev',?_⟩
   exact⟨_,by rw[we];exact Nat.lt_succ_self _,p,o',sv',cs++[tp],acc++[(t,sg)],_,_,_,rfl,rfl,ho',hv',gw2,wa1,by rw[<- ew,we,List.append_assoc];rfl,s2⟩
inductive spPuI(vs:List V)(H:Hp)(Q:VK):Prop where
 |mk (t a wl:Addr) (most:Int) (n:Nat) (ties:List Tie) (am:List Int) (cs:List Addr) (wy:List (Int×Int)) (h1:vs=[.ref t,.ref a,.ref wl,.int most]) (h2:WebAt H t n ties) (h3:H a=some (.lst (am.map V.int))) (h4:am.length=ties.length) (h5:H wl=some (.lst (cs.map V.ref))) (h6:WayAt H cs wy) (h7:a≠wl) (h8:wy.length<=1000) (h9:(∀ x∈wy,∃ j:Nat,j<ties.length/\x.1=(j:Int)/\(x.2=1\/x.2 = -1))) (h10:∀ (H':Hp),H' a=some (.lst ((Flw.pushA (Flw.more ties am most wy) am wy).map V.int))->Kept a H H'->Q (.int (Flw.more ties am most wy)) H')
noncomputable def spPu:Sp:=fun vs H Q _=>spPuI vs H Q
noncomputable abbrev nPu:List Str:=["web","amounts","way","most","more","tie","sign"]
theorem scPu:FnScope nPu ["web","amounts","way","most"] (defScope sPush):=⟨rfl,rfl,rfl,by decide +kernel,rfl,by decide +kernel,by decide +kernel⟩
theorem csPu1:CompScope ["tie","sign","web","amounts"] [none,none,some 0,some 1] nPu (defScope sPush) (scO [(".0",.local),("tie",.local),("sign",.local),("amounts",.free),("web",.free)]):=⟨rfl,by decide +kernel,by decide +kernel,by decide +kernel,rfl,capB_ok (by decide +kernel)⟩
theorem ndPu1:(["tie","sign","web","amounts"]:List Str).Nodup:=by decide +kernel
theorem ok_pu{f:Addr}{fd:FuncData}(F:Fun K "push" "push" sPush f fd)(T:Txt mg):FnOk P w K mg base CX0 1 f fd ["web","amounts","way","most"] spPu:=by
 refine F.ok scPu (fun vs H Q E h=>?_) (fun cdv A outer s H vs Q E hr h=>?_)
 ·obtain⟨t,a,wl,most,n,ties,am,cs,wy,rfl,_⟩:=h
  rfl
 ·obtain⟨t,a,wl,most,n,ties,am,cs,wy,rfl,W,ha,al,hw,wa,aw,wn,st,fin⟩:=h
  obtain⟨⟨ts,bs,h1,h2,h3⟩,len⟩:=id W
  refine⟨_,(pss_cons (ps_set (i:=4) scPu.nd rfl (Or.inl rfl) (pe_callB (call_minLH rfl) (by rfl) T.min boot_min (@pa_bin _ _ _ _ _ _ _ _ (pe_op op_cat (@pe_lst _ _ _ _ (@pa_nam _ _ _ _ _ _ (pv 3) pa_nil)) (pe_comp rfl csPu1 (pi_list (pv 2)) (fun C s H fp=>(pg_tupK K rfl (n:=2) rfl (pgs_cons (pg_name (i:=0) ndPu1 rfl (Or.inl rfl)) (pgs_cons (pg_name (i:=1) ndPu1 rfl (Or.inl rfl)) pgs_nil)) rfl rfl)) (fun C s H fp=>pf_nil) (fun C s H fp=>(pe_op op_sub (@pe_ix _ _ _ _ _ _ _ ix_tupH (@pe_ix _ _ _ _ _ _ _ ix_tupH (@pe_ix _ _ _ _ _ _ _ ix_tupH (pv 2) pe_int (fun _ _=>rfl)) (pv 0) (fun _ _=>rfl)) pe_int (fun _ _=>rfl)) (pe_op op_mul (pv 1) (@pe_ix _ _ _ _ _ _ _ ix_listH (pv 3) (pv 0) (fun _ _=>rfl))))))) pa_nil)))
   (pss_cons (ps_for PassesOwn.never rfl (pi_list (pv 2)) (pg_tup (n:=2) rfl (pgs_cons (pg_name (i:=5) scPu.nd rfl (Or.inl rfl)) (pgs_cons (pg_name (i:=6) scPu.nd rfl (Or.inl rfl)) pgs_nil)))
   (pss_one (ps_augS (pv 1) (pv 5) get_listH (pe_op op_mul (pv 6) (pv 4)) ip_add set_list)))
   (pss_one (ps_ret (pv 4))))),?_⟩
  refine⟨_,rfl,(by show 1<=sizeLine;decide),fun l1 hl1=>?_⟩
  have s1:=Same.new (o:=.lst [V.int most]) hl1
  have g1:(upd H l1 (.lst [V.int most])) l1=some (.lst [V.int most]):=upd_same
  generalize (upd H l1 (.lst [V.int most]))=H1 at s1 g1
  refine⟨_,rfl,wl,rfl,⟨_,SqL.of (s1 _ _ hw)⟩,?_⟩
  refine comp_list (K:=K) (a:=wl) (xs:=cs.map V.ref) (fun j ys G=>Same H1 G/\ys=((wy.take j).map fun x=>Flw.wAt ties x.1-x.2 * Flw.aAt am x.1).map V.int) (by rw[List.length_map,wa.length,sizeLine_eq];lia) ⟨Same.refl _,rfl⟩ (fun j ys G _ z=>SqL.of (z.1 _ _ (s1 _ _ hw))) ?_ ?_
  ·rintro j x ys G hx ⟨sG,rfl⟩
   obtain⟨il,e⟩:=List.getElem?_eq_some_iff.mp hx
   rw[List.length_map]at il
   rw[List.getElem_map]at e
   subst e
   have jl:j<wy.length:=by rw[<- wa.length];exact il
   have s2:=s1.trans sG
   have hc:=s2 _ _ (Paired.at wa j il jl)
   obtain⟨i,hi,ei,sg⟩:=st _ (List.getElem_mem jl)
   have tk:=List.take_succ_eq_append_getElem jl
   generalize wy[j]=x at *
   obtain⟨x1,sn⟩:=x
   have ei:x1=(i:Int):=ei
   subst ei
   have sg:sn=1\/sn = -1:=sg
   have b0:-(2 ^ 64)<sn/\sn<2 ^ 64:=by rcases sg with z | z <;> rw[z] <;> decide
   obtain⟨c,atc,gc⟩:=tie_at (ts:=ts) (Paired.mapP h3 fun a x z=>s2 _ _ z) hi
   refine⟨cs[j],_,rfl,SqT.of hc,rfl,_,_,rfl,_,_,rfl,rfl,⟨rfl,rfl,trivial⟩,tTru_if ?_⟩
   refine⟨_,rfl,t,_,_,_,rfl,rfl,s2 _ _ h1,rfl,_,rfl,ts,_,_,_,rfl,rfl,s2 _ _ h2,atc,c,_,_,_,rfl,rfl,gc,rfl,_,rfl,_,rfl,_,rfl,a,_,_,_,rfl,rfl,s2 _ _ ha,atI_getD (by lia),_,_,rfl,rfl,.inl b0,_,_,rfl,rfl,sG,?_⟩
   rw[tk,List.map_append,List.map_append]
   congr 1
   show [V.int (ties[i].2.2-sn * am.getD i 0)]=[V.int (Flw.wAt ties (i:Int)-sn * Flw.aAt am (i:Int))]
   rw[Flw.wAt_nat hi,Flw.aAt_nat]
  rintro ys G yl ⟨sG,rfl⟩ D hD
  rw[List.length_map,wa.length,List.take_length]
  have s2:=s1.trans sG
  have sD:=Same.new (o:=.lst ((wy.map fun x=>Flw.wAt ties x.1-x.2 * Flw.aAt am x.1).map V.int)) hD
  have gD:(upd G D (.lst ((wy.map fun x=>Flw.wAt ties x.1-x.2 * Flw.aAt am x.1).map V.int))) D=_:=upd_same
  have s3:=s2.trans sD
  have g13:=sD _ _ (sG _ _ g1)
  generalize (upd G D (.lst ((wy.map fun x=>Flw.wAt ties x.1-x.2 * Flw.aAt am x.1).map V.int)))=H3 at gD s3 g13
  refine⟨l1,D,_,_,rfl,rfl,g13,gD,by rw[List.length_map,List.length_map,sizeLine_eq];show 1+_<=_;lia,fun p hp=>?_⟩
  refine⟨p,Flw.rooms ties am most wy,rfl,by rw[upd_same];rfl,by unfold Flw.rooms;simp,fun m hm hl=>?_⟩
  have em:m=Flw.more ties am most wy:=Flw.minL_eq hm hl
  subst em
  have s4:=s3.trans (Same.new (o:=.lst ([V.int most]++(wy.map fun x=>Flw.wAt ties x.1-x.2 * Flw.aAt am x.1).map V.int)) hp)
  generalize (upd H3 p _)=H4 at s4
  generalize Flw.more ties am most wy=m at *
  refine⟨_,rfl,wl,rfl,⟨_,SqL.of (s4 _ _ hw)⟩,?_⟩
  refine for_list (K:=K) (a:=wl) (xs:=cs.map V.ref) (fun j σ G=>∃ (v5 v6:Option V),σ=[some (.ref t),some (.ref a),some (.ref wl),some (.int most),some (.int m),v5,v6]/\G a=some (.lst ((Flw.pushA m am (wy.take j)).map V.int))/\Kept a H G)
   ⟨none,none,rfl,s4 _ _ ha,fun b o _ z=>s4 _ _ z⟩ (fun j σ G _ z=>by obtain⟨_,_,_,_,k⟩:=z;exact SqL.of (k _ _ (Ne.symm aw) hw)) ?_ ?_
  ·rintro j x σ G hx ⟨v5,v6,rfl,ga,kG⟩
   obtain⟨il,e⟩:=List.getElem?_eq_some_iff.mp hx
   rw[List.length_map]at il
   rw[List.getElem_map]at e
   subst e
   have jl:j<wy.length:=by rw[<- wa.length];exact il
   have hc:=Paired.at wa j il jl
   have hc':=kG _ _ (ne_of hc ha (by intro z;cases z)) hc
   obtain⟨i,hi,ei,sg⟩:=st _ (List.getElem_mem jl)
   have tk:Flw.pushA m am (wy.take (j+1))=Flw.push1 m (Flw.pushA m am (wy.take j)) wy[j]:=by
    rw[List.take_succ_eq_append_getElem jl]
    unfold Flw.pushA
    rw[List.foldl_append]
    rfl
   rw[tk]
   have pl:i <(Flw.pushA m am (wy.take j)).length:=by rw[Flw.push_len];lia
   generalize wy[j]=x at *
   obtain⟨x1,sn⟩:=x
   have ei:x1=(i:Int):=ei
   subst ei
   have sg:sn=1\/sn = -1:=sg
   have b0:-(2 ^ 64)<sn/\sn<2 ^ 64:=by rcases sg with z | z <;> rw[z] <;> decide
   refine⟨cs[j],_,rfl,SqT.of hc',rfl,_,_,rfl,_,_,rfl,rfl,?_⟩
   refine⟨_,rfl,_,rfl,a,_,_,_,rfl,rfl,ga,atI_getD pl,_,rfl,_,rfl,_,_,rfl,rfl,.inl b0,_,_,rfl,rfl,a,_,_,_,rfl,rfl,ga,by rw[List.length_map];exact ixN_nat pl,?_⟩
   rw[map_setI]
   exact⟨_,_,rfl,upd_same,kG.trans Kept.at⟩
  ·rintro σ G ⟨v5,v6,rfl,ga,kG⟩
   rw[List.length_map,wa.length,List.take_length]at ga
   exact⟨_,rfl,fin G ga kG⟩
inductive spVaI(vs:List V)(H:Hp)(Q:VK):Prop where
 |mk (t a q:Addr) (n:Nat) (ties:List Tie) (am:List Int) (b:Bool) (S:List Int) (h1:vs=[.ref t,.ref a,.ref q]) (h2:WebAt H t n ties) (h3:(∀ x∈ties,TieOk n x)) (h4:n<=1000) (h5:H a=some (.lst (am.map V.int))) (h6:am.length=ties.length) (h7:H q=some (sqO b (S.map V.int))) (h8:(∀ s∈S,0<=s/\s<n)) (h9:S.length<=1000) (h10:∀ (H':Hp),Same H H'->Q (.int (Flw.val ties am S)) H')
noncomputable def spVa:Sp:=fun vs H Q _=>spVaI vs H Q
noncomputable abbrev nVa:List Str:=["web","amounts","sources","given"]
theorem scVa:FnScope nVa ["web","amounts","sources"] (defScope sValueOf):=⟨rfl,rfl,rfl,by decide +kernel,rfl,by decide +kernel,by decide +kernel⟩
theorem csVa1:CompScope ["source","given"] [none,some 3] nVa (defScope sValueOf) (scO [(".0",.local),("source",.local),("given",.free)]):=⟨rfl,by decide +kernel,by decide +kernel,by decide +kernel,rfl,capB_ok (by decide +kernel)⟩
theorem ndVa1:(["source","given"]:List Str).Nodup:=by decide +kernel
theorem ok_va{f g:Addr}{fd gd:FuncData}(F:Fun K "value_of" "value_of" sValueOf f fd)(T:Txt mg)(GG:CalF P w K mg base 1 "given_at" ["web","amounts"] spGv g gd):FnOk P w K mg base CX0 2 f fd ["web","amounts","sources"] spVa:=by
 refine F.ok scVa (fun vs H Q E h=>?_) (fun cdv A outer s H vs Q E hr h=>?_)
 ·obtain⟨t,a,q,n,ties,am,b,S,rfl,_⟩:=h
  rfl
 ·obtain⟨t,a,q,n,ties,am,b,S,rfl,W,ok,nb,ha,al,hq,sr,sl,fin⟩:=h
  refine⟨_,(pss_cons (ps_set (i:=3) scVa.nd rfl (Or.inr rfl) (pe_call GG.ok hr rfl GG.mg GG.kp GG.bd .nil pass0 (@pa_nam _ _ _ _ _ _ (pv 0) (@pa_nam _ _ _ _ _ _ (pv 1) pa_nil))))
   (pss_one (ps_ret (pe_callB (call_sumH rfl) (by rfl) T.sum boot_sum (@pa_comp _ _ _ _ _ _ _ _ (pe_comp rfl csVa1 (pi_seq b (pv 2)) (fun C s H fp=>(pg_name (i:=0) ndVa1 rfl (Or.inl rfl))) (fun C s H fp=>pf_nil) (fun C s H fp=>(@pe_ix _ _ _ _ _ _ _ ix_listH (pv 1) (pv 0) (fun _ _=>rfl)))) pa_nil))))),?_⟩
  refine⟨_,rfl,_,rfl,t,a,n,ties,am,rfl,W,ok,nb,ha,al,fun p gs H1 hp gp gl gv s1=>?_⟩
  refine⟨_,rfl,q,rfl,⟨_,sqB_of (s1 _ _ hq)⟩,?_⟩
  refine comp_seq (b:=b) (K:=K) (a:=q) (xs:=S.map V.int) (fun j ys G=>Same H1 G/\ys=((S.take j).map (Flw.net ties am)).map V.int) (by rw[List.length_map,sizeLine_eq];lia) ⟨Same.refl _,rfl⟩ (fun j ys G _ z=>sqB_of (z.1 _ _ (s1 _ _ hq))) ?_ ?_
  ·rintro j x ys G hx ⟨sG,rfl⟩
   obtain⟨il,e⟩:=List.getElem?_eq_some_iff.mp hx
   rw[List.length_map]at il
   rw[List.getElem_map]at e
   subst e
   obtain⟨x0,x1⟩:=sr _ (List.getElem_mem il)
   have tk:=List.take_succ_eq_append_getElem il
   generalize S[j]=x at *
   obtain⟨x,rfl⟩:∃ j:Nat,x=(j:Int):=⟨x.toNat,by lia⟩
   refine⟨⟨rfl,trivial⟩,tTru_if ⟨_,rfl,_,rfl,p,_,_,_,rfl,rfl,sG _ _ gp,atI_getD (by lia),sG,?_⟩⟩
   rw[tk,List.map_append,List.map_append,gv x (by lia)]
   rfl
  rintro ys G yl ⟨sG,rfl⟩ D hD
  rw[List.length_map,List.take_length]
  exact⟨D,_,rfl,upd_same,fin _ (s1.trans (sG.trans (Same.new hD)))⟩
end
open PySem L2 PyProof.Rows
theorem WebAt.kept{p:Addr}{H H':Hp}{t:Addr}{n:Nat}{ties:List Tie}{o:HO}(W:WebAt H t n ties)(k:Kept p H H')(hp:H p=some o)(hne:∀ xs,o≠.tup xs):WebAt H' t n ties:=by
 obtain⟨⟨ts,as,h1,h2,h3⟩,l⟩:=W
 exact⟨⟨ts,as,k _ _ (ne_of h1 hp fun e=>hne _ e.symm) h1,k _ _ (ne_of h2 hp fun e=>hne _ e.symm) h2,Paired.mapP h3 fun a x e=>k _ _ (ne_of e hp fun e=>hne _ e.symm) e⟩,l⟩
theorem Same.kept{p:Addr}{H H':Hp}(s:Same H H'):Kept p H H':=fun b o _ e=>s b o e
inductive spSeI(vs:List V)(H:Hp)(Q:VK):Prop where
 |mk (t ar a q r:Addr) (most:Int) (n:Nat) (ties:List Tie) (as:List Addr) (am:List Int) (b c:Bool) (S T:List Int) (h1:vs=[.ref t,.ref ar,.ref a,.ref q,.ref r,.int most]) (h2:WebAt H t n ties) (h3:(∀ x∈ties,TieOk n x)) (h4:n<=1000) (h5:H ar=some (.lst (as.map V.ref))) (h6:as.length=n) (h7:ArcsAt H as ties) (h8:H a=some (.lst (am.map V.int))) (h9:am.length=ties.length) (h10:H q=some (sqO b (S.map V.int))) (h11:H r=some (sqO c (T.map V.int))) (h12:Flw.Ends n S T) (h13:a≠ar) (h14:a∉as) (h15:a≠q) (h16:a≠r) (h17:∀ (am':List Int) (H':Hp),Flw.Sends n ties S T most am am'->H' a=some (.lst (am'.map V.int))->am'.length=ties.length->Kept a H H'->Q .non H')
noncomputable def spSe:Sp:=fun vs H Q _=>spSeI vs H Q
section
variable{P:Program}{w:World}{K:PySem.W.Frag}{mg:Str->Option Value}{base:Heap}
noncomputable abbrev nSe:List Str:=["web","arcs","amounts","sources","sinks","most","trails","ends"]
theorem scSe:FnScope nSe ["web","arcs","amounts","sources","sinks","most"] (defScope sSend):=⟨rfl,rfl,rfl,by decide +kernel,rfl,by decide +kernel,by decide +kernel⟩
theorem csSe1:CompScope ["place","sinks"] [none,some 4] nSe (defScope sSend) (scO [(".0",.local),("place",.local),("sinks",.free)]):=⟨rfl,by decide +kernel,by decide +kernel,by decide +kernel,rfl,capB_ok (by decide +kernel)⟩
theorem ndSe1:(["place","sinks"]:List Str).Nodup:=by decide +kernel
theorem ok_se{f g1 g2 g3:Addr}{fd d1 d2 d3:FuncData}(F:Fun K "send" "send" sSend f fd)(GT:CalF P w K mg base 1 "trails_from" ["web","arcs","amounts","starts","turn"] spTr g1 d1)(GW:CalF P w K mg base 1 "way_to" ["trails","end"] spWy g2 d2)(GP:CalF P w K mg base 1 "push" ["web","amounts","way","most"] spPu g3 d3):FnOk P w K mg base CX0 2 f fd ["web","arcs","amounts","sources","sinks","most"] spSe:=by
 refine F.ok scSe (fun vs H Q E h=>?_) (fun cdv A outer s H vs Q E hr h=>?_)
 ·obtain⟨t,ar,a,q,r,most,n,ties,as,am,b,c,S,T,rfl,_⟩:=h
  rfl
 ·obtain⟨t,ar,a,q,r,most0,n,ties,as,am0,b,c,S,T,rfl,W,ok,nb,har,al,B,ha,aml0,hq,hs,E,aar,aas,aq,arr,fin⟩:=h
  refine⟨_,(pss_one (ps_while PassesOwn.never (pt_cmpR op_gt (pv 5) pe_int (nomark _)) (pss_cons (ps_set (i:=6) scSe.nd rfl (Or.inl rfl) (pe_call GT.ok hr rfl GT.mg GT.kp GT.bd .nil pass0 (@pa_nam _ _ _ _ _ _ (pv 0) (@pa_nam _ _ _ _ _ _ (pv 1) (@pa_nam _ _ _ _ _ _ (pv 2) (@pa_nam _ _ _ _ _ _ (pv 3) (@pa_cst _ _ _ _ _ _ _ pe_int pa_nil)))))))
   (pss_cons (ps_comp (i:=7) scSe.nd rfl (Or.inl rfl) rfl csSe1 (pi_dk (pv 6)) (fun C s H fp=>(pg_name (i:=0) ndSe1 rfl (Or.inl rfl))) (fun C s H fp=>(pf_one (pt_cmpR (op_inQ c) (pv 0) (pv 1) rfl))) (fun C s H fp=>(pv 0)))
   (pss_cons (ps_if (pt_not (pt_truth (pv 7) (fun _=>rfl))) (pss_one ps_break) pss_nil)
   (pss_one (ps_aug (i:=5) scSe.nd rfl (Or.inl rfl) (pe_call GP.ok hr rfl GP.mg GP.kp GP.bd .nil pass0 (@pa_nam _ _ _ _ _ _ (pv 0) (@pa_nam _ _ _ _ _ _ (pv 2) (@pa_call _ _ _ _ _ _ _ _ (pe_call GW.ok hr rfl GW.mg GW.kp GW.bd .nil pass0 (@pa_nam _ _ _ _ _ _ (pv 6) (@pa_sub _ _ _ _ _ _ _ (@pe_ix _ _ _ _ _ _ _ ix_listH (pv 7) pe_int (fun _ _=>rfl)) pa_nil))) (@pa_nam _ _ _ _ _ _ (pv 5) pa_nil))))) ip_sub))))))),?_⟩
  refine⟨fun m σ G=>Ex4 fun(most:Int) (am:List Int) (v6 v7:Option V)=>σ=[some (.ref t),some (.ref ar),some (.ref a),some (.ref q),some (.ref r),some (.int most),v6,v7]/\m=most.toNat/\G a=some (.lst (am.map V.int))/\am.length=ties.length/\(∀ am',Flw.Sends n ties S T most am am'->Flw.Sends n ties S T most0 am0 am')/\Kept a H G,
   ⟨_,most0,am0,none,none,rfl,rfl,ha,aml0,fun _ h=>h,Kept.refl⟩,?_⟩
  rintro m σ G ⟨most,am,v6,v7,rfl,rfl,ga,aml,sd,kG⟩
  refine⟨_,rfl,_,_,rfl,rfl,_,rfl,ite2 (fun hc=>?_) (fun hc=>?_)⟩
  ·have m0:0<most:=of_decide_eq_true hc
   refine⟨fun σ' G'=>∃ m',m'<most.toNat/\Ex4 fun(most:Int) (am:List Int) (v6 v7:Option V)=>σ'=[some (.ref t),some (.ref ar),some (.ref a),some (.ref q),some (.ref r),some (.int most),v6,v7]/\m'=most.toNat/\G' a=some (.lst (am.map V.int))/\am.length=ties.length/\(∀ am',Flw.Sends n ties S T most am am'->Flw.Sends n ties S T most0 am0 am')/\Kept a H G',fun σ' G' z=>z,?_⟩
   have hn:∀ xs:List V,HO.lst (am0.map V.int)≠.tup xs:=fun xs z=>by cases z
   refine⟨_,rfl,_,rfl,_,rfl,_,rfl,t,ar,a,q,n,ties,as,am,b,S,1,rfl,W.kept kG ha hn,ok,nb,kG _ _ (Ne.symm aar) har,al,B.kept kG ha hn aas,ga,aml,kG _ _ (Ne.symm aq) hq,E.sr,E.sn,.inl rfl,fun d kvs G1 hd gd TA s1=>?_⟩
   obtain⟨TO,st,_⟩:=Flw.trails_ok (am:=am) (turn:=1) ok E.sr E.sn
   have tl:=TO.len ok E.sr
   have hd0:H d=none:=by
    cases e:H d with
    |none=>rfl
    |some o =>
     by_cases z:d=a
     ·rw[z,ga]at hd;cases hd
     ·rw[kG _ _ z e]at hd;cases hd
   have ad:a≠d:=fun z=>by rw[<- z,ga]at hd;cases hd
   generalize etr:Flw.trails n ties am 1 S=tr at *
   refine⟨_,rfl,d,kvs,rfl,gd,fun o=>?_⟩
   have kk:=TA.keys
   have kl:kvs.length=tr.length:=TA.length
   have k1:Kept a H (upd G1 d (.frz o (.dK kvs))):=(kG.trans (Same.kept s1)).put hd0
   have ga1:(upd G1 d (.frz o (.dK kvs))) a=some (.lst (am.map V.int)):=by rw[upd_ne ad];exact s1 _ _ ga
   have TA1:TrAt (upd G1 d (.frz o (.dK kvs))) kvs tr:=TA.tups fun c xs z=>by rw[upd_ne (ne_of z gd (by intro z;cases z))];exact z
   have gd1:(upd G1 d (.frz o (.dK kvs))) d=some (.frz o (.dK kvs)):=upd_same
   generalize (upd G1 d (.frz o (.dK kvs)))=G2 at k1 ga1 TA1 gd1
   have hs2:=k1 _ _ (Ne.symm arr) hs
   refine comp_dk (fun i ys G=>Same G2 G/\ys=(((Flw.keys tr).take i).filter fun k=>T.contains k).map V.int) (by rw[kl,sizeLine_eq];lia) ⟨Same.refl _,rfl⟩ (fun i ys G _ z=>z.1 _ _ gd1) ?_ ?_
   ·rintro i kv ys G hkv ⟨sG,rfl⟩
    have ek:=congrArg (fun l:List Key=>l[i]?) kk
    rw[List.getElem?_map,List.getElem?_map,hkv]at ek
    have il:i <(Flw.keys tr).length:=by
     cases z:(Flw.keys tr)[i]? with
     |none=>rw[z]at ek;cases ek
     |some y=>exact(List.getElem?_eq_some_iff.mp z).1
    rw[List.getElem?_eq_getElem il]at ek
    have ek:kv.1=Sum.inl (Flw.keys tr)[i]:=Option.some.inj ek
    rw[ek]
    refine⟨⟨rfl,trivial⟩,_,rfl,_,rfl,r,_,rfl,sG _ _ hs2,rfl,flat_ints _,_,rfl,?_⟩
    rw[List.take_succ_eq_append_getElem il,List.filter_append,List.map_append]
    refine ite2 (fun z=>?_) (fun z=>?_)
    ·have z:T.contains (Flw.keys tr)[i]=true:=by rw[<- inV_ints];exact z
     refine⟨_,rfl,sG,?_⟩
     rw[List.filter_cons,if_pos z]
     rfl
    ·have z:¬ T.contains (Flw.keys tr)[i]=true:=by rw[<- inV_ints];exact z
     refine⟨sG,?_⟩
     rw[List.filter_cons,if_neg z,List.filter_nil,List.map_nil,List.append_nil]
   rintro ys G yl ⟨sG,rfl⟩ D hD
   have tk:(Flw.keys tr).take kvs.length=Flw.keys tr:=List.take_of_length_le (by unfold Flw.keys;rw[List.length_map];lia)
   rw[tk]
   have sD:=sG.trans (Same.new (o:=.lst (((Flw.keys tr).filter fun k=>T.contains k).map V.int)) hD)
   have gE:(upd G D (.lst (((Flw.keys tr).filter fun k=>T.contains k).map V.int))) D=some (.lst ((Flw.endsOf tr T).map V.int)):=upd_same
   generalize (upd G D (.lst (((Flw.keys tr).filter fun k=>T.contains k).map V.int)))=G3 at sD gE
   refine⟨_,rfl,_,.inl ⟨_,SqL.of gE,rfl⟩,?_⟩
   cases ee:Flw.endsOf tr T with
   |nil =>
    refine iteT ?_
    exact fin am G3 (sd am (.none m0 (by rw[etr];exact ee))) (sD _ _ ga1) aml (k1.trans (Same.kept sD))
   |cons e rest =>
    rw[ee]at gE
    refine iteF ?_
    have he:=Flw.mem_ends.mp (show e∈Flw.endsOf tr T by rw[ee];exact List.mem_cons_self ..)
    have wlen:=Flw.way_len tr e
    obtain⟨mo1,mo2,mo3⟩:=Flw.more_ok TO he.1 m0
    refine⟨_,rfl,_,rfl,_,rfl,_,rfl,_,rfl,D,_,_,_,rfl,rfl,gE,atI_nat (j:=0) (v:=V.int e) rfl,d,e,kvs,ties,am,S,1,tr,rfl,.inr ⟨o,sD _ _ gd1⟩,TA1.tups fun c xs z=>sD _ _ z,TO,he.1,by lia,fun wl cs G4 hwl gwl wa s4=>?_⟩
    have s24:=sD.trans s4
    have ga4:=s24 _ _ ga1
    have aw:a≠wl:=fun z=>by rw[<- z,sD _ _ ga1]at hwl;cases hwl
    have k4:=k1.trans (Same.kept s24)
    refine⟨_,rfl,t,a,wl,most,n,ties,am,cs,Flw.way tr e,rfl,W.kept k4 ha hn,ga4,aml,gwl,wa,aw,by lia,fun x hx=>?_,fun G5 ga5 k5=>?_⟩
    ·obtain⟨j,hj,ej,sg,_⟩:=((Flw.way_ok TO e he.1).1 x hx).ex
     exact⟨j,hj,ej,sg⟩
    ·refine⟨_,_,rfl,rfl,(most-Flw.more ties am most (Flw.way tr e)).toNat,by lia,_,_,_,_,rfl,rfl,ga5,by rw[Flw.push_len];exact aml,fun am' h=>sd am' (.push m0 (e:=e) (r:=rest) (by rw[etr];exact ee) (by rw[etr];exact h)),k4.trans k5⟩
  ·have m0:most<=0:=by
    have:¬ 0<most:=fun z=>hc (decide_eq_true z)
    lia
   exact fin am G (sd am (.stop m0)) ga aml kG
inductive spGaI(vs:List V)(H:Hp)(Q:VK):Prop where
 |mk (t ar q r:Addr) (n:Nat) (ties:List Tie) (as:List Addr) (b c:Bool) (S T:List Int) (h1:vs=[.ref t,.ref ar,.ref q,.ref r]) (h2:WebAt H t n ties) (h3:(∀ x∈ties,TieOk n x)) (h4:n<=1000) (h5:H ar=some (.lst (as.map V.ref))) (h6:as.length=n) (h7:ArcsAt H as ties) (h8:H q=some (sqO b (S.map V.int))) (h9:H r=some (sqO c (T.map V.int))) (h10:Flw.Ends n S T) (h11:∀ (a:Addr) (am:List Int) (H':Hp),H a=none->H' a=some (.lst (am.map V.int))->Flw.Great n ties S T am->am.length=ties.length->Same H H'->Q (.ref a) H')
noncomputable def spGa:Sp:=fun vs H Q _=>spGaI vs H Q
noncomputable abbrev nGa:List Str:=["web","arcs","sources","sinks","amounts"]
theorem scGa:FnScope nGa ["web","arcs","sources","sinks"] (defScope sGreatestAmounts):=⟨rfl,rfl,rfl,by decide +kernel,rfl,by decide +kernel,by decide +kernel⟩
theorem csGa1:CompScope ["a","b","weight"] [none,none,none] nGa (defScope sGreatestAmounts) (scO [(".0",.local),("a",.local),("b",.local),("weight",.local)]):=⟨rfl,by decide +kernel,by decide +kernel,by decide +kernel,rfl,capB_ok (by decide +kernel)⟩
theorem ndGa1:(["a","b","weight"]:List Str).Nodup:=by decide +kernel
theorem ok_ga{f g1:Addr}{fd d1:FuncData}(F:Fun K "greatest_amounts" "greatest_amounts" sGreatestAmounts f fd)(T:Txt mg)(GS:CalF P w K mg base 2 "send" ["web","arcs","amounts","sources","sinks","most"] spSe g1 d1):FnOk P w K mg base CX0 3 f fd ["web","arcs","sources","sinks"] spGa:=by
 refine F.ok scGa (fun vs H Q E h=>?_) (fun cdv A outer s H vs Q E hr h=>?_)
 ·obtain⟨t,ar,q,r,n,ties,as,b,c,S,Tk,rfl,_⟩:=h
  rfl
 ·obtain⟨t,ar,q,r,n,ties,as,b,c,S,Tk,rfl,W,ok,nb,har,al,B,hq,hs,E,fin⟩:=h
  obtain⟨⟨ts,bs,h1,h2,h3⟩,len⟩:=id W
  have h3l:bs.length=ties.length:=h3.length
  refine⟨_,(pss_cons (ps_set (i:=4) scGa.nd rfl (Or.inl rfl) (pe_op op_rep (@pe_lst _ _ _ _ (@pa_cst _ _ _ _ _ _ _ pe_int pa_nil)) (pe_callB call_lenTH (by rfl) T.len PySem.boot_len (@pa_sub _ _ _ _ _ _ _ (@pe_ix _ _ _ _ _ _ _ ix_tupH (pv 0) pe_int (fun _ _=>rfl)) pa_nil))))
   (pss_cons (ps_expr (pe_call GS.ok hr rfl GS.mg GS.kp GS.bd .nil pass0 (@pa_nam _ _ _ _ _ _ (pv 0) (@pa_nam _ _ _ _ _ _ (pv 1) (@pa_nam _ _ _ _ _ _ (pv 4) (@pa_nam _ _ _ _ _ _ (pv 2) (@pa_nam _ _ _ _ _ _ (pv 3) (@pa_call _ _ _ _ _ _ _ _ (pe_callB (call_sumH rfl) (by rfl) T.sum boot_sum (@pa_comp _ _ _ _ _ _ _ _ (pe_comp rfl csGa1 (pi_tup (@pe_ix _ _ _ _ _ _ _ ix_tupH (pv 0) pe_int (fun _ _=>rfl))) (fun C s H fp=>(pg_tupK K rfl (n:=3) rfl (pgs_cons (pg_name (i:=0) ndGa1 rfl (Or.inl rfl)) (pgs_cons (pg_name (i:=1) ndGa1 rfl (Or.inl rfl)) (pgs_cons (pg_name (i:=2) ndGa1 rfl (Or.inl rfl)) pgs_nil))) rfl rfl)) (fun C s H fp=>pf_nil) (fun C s H fp=>(pv 2))) pa_nil)) pa_nil))))))))
   (pss_one (ps_ret (pv 4))))),?_⟩
  refine⟨(by show 1<=sizeLine;decide),fun l hl=>?_⟩
  have s1:=Same.new (o:=.lst [V.int 0]) hl
  refine⟨_,rfl,t,_,_,_,rfl,rfl,s1 _ _ h1,rfl,ts,_,rfl,s1 _ _ h2,l,_,_,rfl,rfl,upd_same,by lia,by rw[List.length_map];lia,by show 1 * _<=_;rw[List.length_map,sizeLine_eq];lia,fun a ha=>?_⟩
  rw[List.length_map,h3l,Int.toNat_natCast,rep_zero]
  have s2:=s1.trans (Same.new (o:=.lst ((List.replicate ties.length (0:Int)).map V.int)) ha)
  have ha0:H a=none:=s1.free ha
  have ga:(upd (upd H l (.lst [V.int 0])) a (.lst ((List.replicate ties.length (0:Int)).map V.int))) a=_:=upd_same
  generalize (upd (upd H l (.lst [V.int 0])) a (.lst ((List.replicate ties.length (0:Int)).map V.int)))=H1 at s2 ga
  refine⟨_,rfl,_,rfl,_,rfl,_,rfl,_,rfl,_,rfl,t,_,_,_,rfl,rfl,s2 _ _ h1,rfl,ts,rfl,⟨_,SqT.of (s2 _ _ h2)⟩,?_⟩
  refine comp_tup (K:=K) (a:=ts) (xs:=bs.map V.ref) (fun j ys G=>Same H1 G/\ys=((ties.take j).map fun x=>x.2.2).map V.int) (by rw[List.length_map,sizeLine_eq];lia) ⟨Same.refl _,rfl⟩ (fun j ys G _ z=>SqT.of (z.1 _ _ (s2 _ _ h2))) ?_ ?_
  ·rintro j x ys G hx ⟨sG,rfl⟩
   obtain⟨il,e⟩:=List.getElem?_eq_some_iff.mp hx
   rw[List.length_map]at il
   rw[List.getElem_map]at e
   subst e
   have it:j<ties.length:=by lia
   have hx:=sG _ _ (s2 _ _ (Paired.at h3 j il it))
   refine⟨bs[j],_,rfl,SqT.of hx,rfl,_,_,rfl,_,_,rfl,_,_,rfl,rfl,trivial,tTru_if ⟨_,rfl,sG,?_⟩⟩
   rw[List.take_succ_eq_append_getElem it,List.map_append,List.map_append]
   rfl
  rintro ys G yl ⟨sG,rfl⟩ D hD
  rw[List.length_map,h3l,List.take_length]
  have s3:=(s2.trans sG).trans (Same.new (o:=.lst ((ties.map fun x=>x.2.2).map V.int)) hD)
  have s13:=sG.trans (Same.new (o:=.lst ((ties.map fun x=>x.2.2).map V.int)) hD)
  refine⟨D,_,rfl,upd_same,?_⟩
  generalize (upd G D (.lst ((ties.map fun x=>x.2.2).map V.int)))=H3 at s3 s13
  have nea:∀ {u:Addr}{o:HO},H u=some o->a≠u:=fun e z=>by rw[<- z,ha0]at e;cases e
  refine⟨t,ar,a,q,r,Flw.total ties,n,ties,as,List.replicate ties.length 0,b,c,S,Tk,rfl,W.same s3,ok,nb,s3 _ _ har,al,B.same s3,s13 _ _ ga,by simp,s3 _ _ hq,s3 _ _ hs,E,nea har,fun m=>?_,nea hq,nea hs,fun am' H' sd ga' aml kp=>?_⟩
  ·obtain⟨i,hi,e⟩:=List.getElem_of_mem m
   obtain⟨cs,ec,_⟩:=B i hi
   exact nea ec e.symm
  ·exact⟨_,rfl,fin a am' H' ha0 ga' sd aml fun u o e=>kp _ _ (Ne.symm (nea e)) (s3 _ _ e)⟩
structure FlowTold(n:Nat)(ties:List Tie)(S T am side:List Int):Prop where
 gr:Flw.Great n ties S T am
 len:am.length=ties.length
 pm:side.Perm (Flw.keys (Flw.trails n ties am 1 S))
 pw:side.Pairwise (·<=·)
inductive spFlI(vs:List V)(H:Hp)(Q:VK):Prop where
 |mk (t q r:Addr) (n:Nat) (ties:List Tie) (b c:Bool) (S T:List Int) (h1:vs=[.ref t,.ref q,.ref r]) (h2:WebAt H t n ties) (h3:(∀ x∈ties,TieOk n x)) (h4:n<=60) (h5:H q=some (sqO b (S.map V.int))) (h6:H r=some (sqO c (T.map V.int))) (h7:Flw.Ends n S T) (h8:∀ (p a sd:Addr) (am side:List Int) (H':Hp),H p=none->H a=none->H sd=none->a≠sd->H' p=some (.tup [.int (Flw.val ties am S),.ref a,.ref sd])->H' a=some (.lst (am.map V.int))->H' sd=some (.lst (side.map V.int))->FlowTold n ties S T am side->Same H H'->Q (.ref p) H')
noncomputable def spFl:Sp:=fun vs H Q _=>spFlI vs H Q
noncomputable abbrev nFl:List Str:=["web","sources","sinks","arcs","amounts","side"]
theorem scFl:FnScope nFl ["web","sources","sinks"] (defScope sFlow):=⟨rfl,rfl,rfl,by decide +kernel,rfl,by decide +kernel,by decide +kernel⟩
theorem ok_fl{f g1 g2 g3 g4:Addr}{fd d1 d2 d3 d4:FuncData}(F:Fun K "flow" "flow" sFlow f fd)(T:Txt mg)(GA:CalF P w K mg base 1 "arcs_of" ["web"] spAr g1 d1)(GG:CalF P w K mg base 3 "greatest_amounts" ["web","arcs","sources","sinks"] spGa g2 d2)(GT:CalF P w K mg base 1 "trails_from" ["web","arcs","amounts","starts","turn"] spTr g3 d3)(GV:CalF P w K mg base 2 "value_of" ["web","amounts","sources"] spVa g4 d4):FnOk P w K mg base CX0 4 f fd ["web","sources","sinks"] spFl:=by
 refine F.ok scFl (fun vs H Q E h=>?_) (fun cdv A outer s H vs Q E hr h=>?_)
 ·obtain⟨t,q,r,n,ties,b,c,S,Tk,rfl,_⟩:=h
  rfl
 ·obtain⟨t,q,r,n,ties,b,c,S,Tk,rfl,W,ok,nb,hq,hs,E,fin⟩:=h
  have hr1:Room 1 _:=hr.mono (by decide)
  have hr2:Room 2 _:=hr.mono (by decide)
  have sl:S.length<=n:=Flw.nodup_len E.sn E.sr
  refine⟨_,(pss_cons (ps_set (i:=3) scFl.nd rfl (Or.inl rfl) (pe_call GA.ok hr1 rfl GA.mg GA.kp GA.bd .nil pass0 (@pa_nam _ _ _ _ _ _ (pv 0) pa_nil)))
   (pss_cons (ps_set (i:=4) scFl.nd rfl (Or.inl rfl) (pe_call GG.ok hr rfl GG.mg GG.kp GG.bd .nil pass0 (@pa_nam _ _ _ _ _ _ (pv 0) (@pa_nam _ _ _ _ _ _ (pv 3) (@pa_nam _ _ _ _ _ _ (pv 1) (@pa_nam _ _ _ _ _ _ (pv 2) pa_nil))))))
   (pss_cons (ps_set (i:=5) scFl.nd rfl (Or.inl rfl) (pe_callB (call_sortedK rfl) (by rfl) T.sorted boot_sorted (@pa_call _ _ _ _ _ _ _ _ (pe_call GT.ok hr1 rfl GT.mg GT.kp GT.bd .nil pass0 (@pa_nam _ _ _ _ _ _ (pv 0) (@pa_nam _ _ _ _ _ _ (pv 3) (@pa_nam _ _ _ _ _ _ (pv 4) (@pa_nam _ _ _ _ _ _ (pv 1) (@pa_cst _ _ _ _ _ _ _ pe_int pa_nil)))))) pa_nil)))
   (pss_one (ps_ret (@pe_tup _ _ _ _ _ (@pa_call _ _ _ _ _ _ _ _ (pe_call GV.ok hr2 rfl GV.mg GV.kp GV.bd .nil pass0 (@pa_nam _ _ _ _ _ _ (pv 0) (@pa_nam _ _ _ _ _ _ (pv 4) (@pa_nam _ _ _ _ _ _ (pv 1) pa_nil)))) (@pa_nam _ _ _ _ _ _ (pv 4) (@pa_nam _ _ _ _ _ _ (pv 5) pa_nil))))))))),?_⟩
  refine⟨_,rfl,t,n,ties,rfl,W,ok,by lia,fun ar as H1 har al B s1=>?_⟩
  refine⟨_,rfl,_,rfl,_,rfl,_,rfl,t,ar,q,r,n,ties,as,b,c,S,Tk,rfl,W.same s1,ok,by lia,har,al,B,s1 _ _ hq,s1 _ _ hs,E,fun a am H2 ha ga gr aml s2=>?_⟩
  have s12:=s1.trans s2
  refine⟨_,rfl,_,rfl,_,rfl,_,rfl,t,ar,a,q,n,ties,as,am,b,S,1,rfl,W.same s12,ok,by lia,s2 _ _ har,al,B.same s2,ga,aml,s12 _ _ hq,E.sr,E.sn,.inl rfl,fun d kvs H3 hd gd TA s3=>?_⟩
  obtain⟨TO,_,_⟩:=Flw.trails_ok (am:=am) (turn:=1) ok E.sr E.sn
  have tl:=TO.len ok E.sr
  refine⟨d,kvs,_,rfl,gd,TA.keys,by unfold Flw.keys;rw[List.length_map];lia,fun sd side hsd pm pw=>?_⟩
  have s13:=s12.trans s3
  have s4:=Same.new (o:=.lst (side.map V.int)) hsd
  have gsd:(upd H3 sd (.lst (side.map V.int))) sd=_:=upd_same
  have s14:=s13.trans s4
  have ga4:=s4 _ _ (s3 _ _ ga)
  have asd:a≠sd:=fun z=>by rw[<- z,s3 _ _ ga]at hsd;cases hsd
  generalize (upd H3 sd (.lst (side.map V.int)))=H4 at s4 gsd s14 ga4
  refine⟨_,rfl,_,rfl,_,rfl,t,a,q,n,ties,am,b,S,rfl,W.same s14,ok,by lia,ga4,aml,s14 _ _ hq,E.sr,by lia,fun H5 s5=>?_⟩
  refine⟨_,rfl,_,rfl,(by show 3<=sizeLine;decide),fun p hp=>?_⟩
  have s15:=s14.trans s5
  have s6:=Same.new (o:=.tup [.int (Flw.val ties am S),.ref a,.ref sd]) hp
  exact fin p a sd am side _ (s15.free hp) (s1.free ha) (s13.free hsd) asd upd_same (s6 _ _ (s5 _ _ ga4)) (s6 _ _ (s5 _ _ gsd)) ⟨gr,aml,pm,pw⟩ (s15.trans s6)
theorem upto_get{n i:Nat}(h:i<n):∃ h':i <(upto n).length,(upto n)[i]=(i:Int):=by
 refine⟨by unfold upto;simpa using h,?_⟩
 unfold upto
 rw[List.getElem_map,List.getElem_range]
theorem upto_len(n:Nat):(upto n).length=n:=by unfold upto;simp
end
end K19
namespace L2
open PySem PySem.W PyProof.Rows
theorem pe_bmK{X:Cx}(K:PySem.W.Frag)(eK:X.K=K){T id:String}{name:Str}{r:V->List V->Hp->VK->Prop}{o e:Expr}{es:List Expr}{to:TE}{t:TA}{apos cpos:Pos}(pa:PlainAttrs T)(slot:Slot T name id)(hty:typeOf (.builtin id)=pure (.type "method_descriptor"))(hm:MtR X id r)(ho:PE X o to)(ha:PA X (e :: es) t)
  (hbase:attributeBase o name X.env (eval o X.env)=eval o X.env:=by rfl)
  (hfew:((backTo cpos (starEach (e :: es) X.env)).all (fun x=>!x.1) && (backToKw cpos (keywordEach [] X.env)).all (fun x=>x.1.isSome) && decide ((e :: es).length+([]:List Keyword).length+(if([]:List Keyword).isEmpty then 0 else 1)<30))=true:=by rfl)
  (hline:(apos.endLine == cpos.line)=true:=by rfl) (hs:starEach (e :: es) X.env=(false,eval e X.env) :: starEach es X.env:=by rfl) (hplain:(backTo cpos (starEach es X.env)).any (·.1)=false:=by rfl):PE X (.Call (.Attribute o name apos) (e :: es) [] cpos) (tBM K T r to t):=by
 subst eK
 exact pe_bm pa slot hty hm ho ha hbase hfew hline hs hplain
theorem call_len_seqK{X:Cx}(K:PySem.W.Frag)(e:X.K=K):CallR X (.builtin "len") (fun xs H Q=>∃ p ys,xs=[.ref p]/\(SqL K H p ys\/SqT K H p ys)/\Q (.int ys.length) H):=e▸call_len_seq
theorem map_eraseI:∀ (l:List Int) (k:Nat),(l.map V.int).eraseIdx k=(l.eraseIdx k).map V.int
 |[],k=>by cases k <;> rfl
 |x :: r,0=>rfl
 |x :: r,k+1=>by
  show V.int x :: (r.map V.int).eraseIdx k=V.int x :: (r.eraseIdx k).map V.int
  rw[map_eraseI r k]
end L2
namespace K19
open PySem L2 PyProof.Rows
theorem BoxAt.same{H H':Hp}{p:Addr}{N:Nat}(B:BoxAt H p N)(s:Same H H'):BoxAt H' p N:=by
 obtain⟨a,b,c,e,r⟩:=B
 exact⟨a,b,c,s _ _ e,r⟩
theorem upto_nodup(n:Nat):(upto n).Nodup:=by
 unfold upto List.Nodup
 rw[List.pairwise_map]
 exact(List.nodup_range (n:=n)).imp fun {a b} ne e=>ne (by lia)
structure PostOk(n:Nat)(ps:List Int):Prop where
 nd:ps.Nodup
 rg:∀ x∈ps,0<=x/\x<n
 lo:1<=ps.length
 hi:ps.length<=6
inductive spPoI(vs:List V)(H:Hp)(Q:VK):Prop where
 |mk (p:Addr) (n N:Nat) (mo:Int) (h1:vs=[.ref p,.int n,.int mo]) (h2:BoxAt H p N) (h3:N+100<2 ^ 40) (h4:2<=n) (h5:n<=30) (h6:2<=mo) (h7:mo<=6) (h8:∀ (l:Addr) (ps:List Int) (H':Hp),H l=none->H' l=some (.lst (ps.map V.int))->l≠p->PostOk n ps->BoxAt H' p (N+20)->Kept p H H'->Q (.ref l) H')
noncomputable def spPo:Sp:=fun vs H Q _=>spPoI vs H Q
section
variable{P:Program}{w:World}{K:PySem.W.Frag}{mg:Str->Option Value}{base:Heap}
noncomputable abbrev nPo:List Str:=["_law_box_here","_law_many_here","_law_most","_law_some","_law_found"]
theorem scPo:FnScope nPo ["_law_box_here","_law_many_here","_law_most"] (defScope sPosts):=⟨rfl,rfl,rfl,by decide +kernel,rfl,by decide +kernel,by decide +kernel⟩
theorem csPo:CompScope ["_law_turn","_law_box_here","_law_some"] [none,some 0,some 3] nPo (defScope sPosts) (scO [(".0",.local),("_law_turn",.local),("_law_take",.globalImplicit),("len",.globalImplicit),("_law_box_here",.free),("_law_some",.free)]):=⟨rfl,by decide +kernel,by decide +kernel,by decide +kernel,rfl,capB_ok (by decide +kernel)⟩
theorem ndPo:(["_law_turn","_law_box_here","_law_some"]:List Str).Nodup:=by decide +kernel
theorem ok_po{f g:Addr}{fd gd:FuncData}(F:Fun K "_law_posts" "_law_posts" sPosts f fd)(T:Txt mg)(G:TakeF P w K mg base g gd):FnOk P w K mg base CX0 2 f fd ["_law_box_here","_law_many_here","_law_most"] spPo:=by
 refine F.ok scPo (fun vs H Q E h=>?_) (fun cdv A outer s H vs Q E hr h=>?_)
 ·obtain⟨p,n,N,mo,rfl,_⟩:=h
  rfl
 ·obtain⟨p,n,N,mo,rfl,B,hN,n1,n30,mo0,mo6,q⟩:=h
  refine⟨_,pss_cons (ps_set (i:=3) scPo.nd rfl (Or.inr rfl) (pe_callTy (call_list_rng rfl) (by rfl) T.list boot_list (@pa_call _ _ _ _ _ _ _ _ (pe_callTy (call_range _) (by rfl) T.range boot_range (@pa_nam _ _ _ _ _ _ (pv 1) pa_nil)) pa_nil)))
   (pss_cons (ps_comp (i:=4) scPo.nd rfl (Or.inl rfl) rfl csPo (pi_range1 rfl T.range (@pa_call _ _ _ _ _ _ _ _ (pe_callB (call_min2 rfl) (by rfl) T.min boot_min (@pa_nam _ _ _ _ _ _ (pv 1) (@pa_bin _ _ _ _ _ _ _ _ (pe_op op_add pe_int (pe_call G.ok hr rfl G.mg G.kp G.bd .nil pass0 (@pa_nam _ _ _ _ _ _ (pv 0) (@pa_bin _ _ _ _ _ _ _ _ (pe_op op_sub (pv 2) pe_int) pa_nil)))) pa_nil))) pa_nil))
    (fun C s H fp=>pg_name (i:=0) ndPo rfl (Or.inl rfl)) (fun C s H fp=>pf_nil)
    (fun C s H fp=>pe_bmK K rfl PySem.F.plainAttrs_list PySem.F.slot_list_pop PySem.F.type_list_pop mt_popAt (pv 2) (@pa_call _ _ _ _ _ _ _ _ (pe_call G.ok hr rfl G.mg G.kp G.bd .nil pass0 (@pa_nam _ _ _ _ _ _ (pv 1) (@pa_call _ _ _ _ _ _ _ _ (pe_callB (call_len_seqK K rfl) (by rfl) T.len PySem.boot_len (@pa_nam _ _ _ _ _ _ (pv 2) pa_nil)) pa_nil))) pa_nil)))
   (pss_one (ps_ret (pe_callB call_sortedI (by rfl) T.sorted boot_sorted (@pa_nam _ _ _ _ _ _ (pv 4) pa_nil))))),?_⟩
  refine⟨_,rfl,_,rfl,fun r hr=>⟨r,_,rfl,upd_same,by lia,by lia,fun so hso=>?_⟩⟩
  rw[show((n:Int)).toNat=n by lia]
  have so0:H so=none:=(Same.new (o:=.rng 0 (n:Int)) hr).free hso
  have sop:so≠p:=B.ne so0
  have s1:=(Same.new (o:=.rng 0 (n:Int)) hr).trans (Same.new (o:=.lst ((upto n).map V.int)) hso)
  have gs:(upd (upd H r (.rng 0 (n:Int))) so (.lst ((upto n).map V.int))) so=some (.lst ((upto n).map V.int)):=upd_same
  generalize (upd (upd H r (.rng 0 (n:Int))) so (.lst ((upto n).map V.int)))=H1 at s1 gs
  have B1:=B.same s1
  refine⟨_,rfl,_,rfl,_,rfl,_,_,rfl,rfl,p,_,N,rfl,B1,by lia,by lia,by lia,fun z H2 z0 z1 B2 k2=>?_⟩
  refine⟨_,_,rfl,rfl,_,_,rfl,_,rfl,by split <;> lia,by split <;> lia,?_⟩
  obtain⟨ct,ec,c1,c2,c3⟩:∃ ct:Nat,(if 2+z <(n:Int)then 2+z else(n:Int)).toNat=ct/\ct<=n/\ct<=6/\2<=ct:=⟨_,rfl,by split <;> lia,by split <;> lia,by split <;> lia⟩
  rw[ec]
  have k1:Kept p H H1:=fun b o _ e=>s1 b o e
  refine comp_range (lo:=0) (n:=ct) (fun j ys G2=>BoxAt G2 p (N+1+j)/\Kept p H G2/\∃ (rs qs:List Int),G2 so=some (.lst (rs.map V.int))/\ys=qs.map V.int/\(qs++rs).Perm (upto n)/\qs.length=j) (by rw[sizeLine_eq];omega)
   ⟨B2,k1.trans k2,upto n,[],k2 _ _ sop gs,rfl,.refl _,rfl⟩ ?_ ?_
  ·rintro j ys G2 hj ⟨B3,k3,rs,qs,gs3,rfl,pm,ql⟩
   have rl:qs.length+rs.length=n:=by
    have:=pm.length_eq
    rw[List.length_append,upto_length]at this
    exact this
   refine⟨⟨rfl,rfl,trivial⟩,tTru_if ⟨_,rfl,.inl ⟨rfl,_,SqL.of gs3⟩,_,rfl,_,rfl,so,_,rfl,.inl (SqL.of gs3),p,_,_,rfl,B3,by lia,by rw[List.length_map];lia,by rw[List.length_map];lia,fun y G3 y0 y1 B4 k4=>?_⟩⟩
   rw[List.length_map]at y1
   obtain⟨k,rfl⟩:∃ k:Nat,y=(k:Int):=⟨y.toNat,by lia⟩
   have kl:k<rs.length:=by omega
   have gs4:=k4 _ _ sop gs3
   refine⟨so,rs.map V.int,(k:Int),k,V.int rs[k],rfl,rfl,gs4,by lia,by lia,?_,by rw[List.getElem?_map,List.getElem?_eq_getElem kl];rfl,?_⟩
   ·unfold seqIndex?
    rw[List.length_map]
    simp
    omega
   rw[map_eraseI]
   refine⟨(B4.put sop).mono (by lia),(k3.trans k4).put so0,rs.eraseIdx k,qs++[rs[k]],upd_same,by rw[List.map_append];rfl,?_,by rw[List.length_append,ql];rfl⟩
   rw[List.append_assoc]
   exact(List.Perm.append_left _ (SetA.cut_perm k rs kl)).trans pm
  ·rintro ys G2 yl ⟨B3,k3,rs,qs,gs3,rfl,pm,ql⟩ D hD
   have sD:=Same.new (o:=.lst (qs.map V.int)) hD
   refine⟨_,rfl,D,qs,rfl,SqL.of upd_same,by omega,fun l ms hl pq _=>?_⟩
   have hl2:=sD.free hl
   have sL:=Same.new (o:=.lst (ms.map V.int)) hl
   refine q l ms _ (k3.free B3 hl2) upd_same (B3.ne hl2) ?_ (((B3.same sD).same sL).mono (by lia)) (k3.trans (fun b o _ e=>sL b o (sD b o e)))
   have nd:=upto_nodup n
   have ndq:(qs++rs).Nodup:=pm.nodup_iff.mpr nd
   refine⟨pq.nodup_iff.mpr (List.nodup_append.mp ndq).1,fun x hx=>?_,by rw[pq.length_eq];lia,by rw[pq.length_eq];lia⟩
   have hx:x∈upto n:=pm.mem_iff.mp (List.mem_append_left _ (pq.mem_iff.mp hx))
   unfold upto at hx
   obtain⟨i,hi,e⟩:=List.mem_map.mp hx
   have:=List.mem_range.mp hi
   lia
end
open PySem L2 PyProof.Rows
noncomputable def nmAt(nm:List Int)(i:Int):Int:=nm.getD i.toNat 0
theorem nmAt_get{nm:List Int}{i:Int}(h0:0<=i)(h1:i<nm.length):atI (nm.map V.int) i=some (V.int (nmAt nm i))/\nmAt nm i∈nm:=by
 obtain⟨j,rfl⟩:∃ j:Nat,i=(j:Int):=⟨i.toNat,by lia⟩
 have hj:j<nm.length:=by lia
 have e:nmAt nm (j:Int)=nm[j]:=by
  unfold nmAt
  rw[Int.toNat_natCast,List.getD_eq_getElem?_getD,List.getElem?_eq_getElem hj]
  rfl
 rw[e]
 exact⟨atI_nat (by rw[List.getElem?_map,List.getElem?_eq_getElem hj];rfl),List.getElem_mem hj⟩
theorem mem_uptoI{n:Nat}{x:Int}:x∈upto n↔0<=x/\x<n:=by
 unfold upto
 rw[List.mem_map]
 constructor
 ·rintro⟨i,hi,e⟩
  have:=List.mem_range.mp hi
  lia
 ·rintro⟨h1,h2⟩
  exact⟨x.toNat,List.mem_range.mpr (by omega),by lia⟩
noncomputable def others(P:List Int)(p:Int):List Int:=P.filter fun o=>decide (o≠p)
theorem mem_others{P:List Int}{p v:Int}:v∈others P p↔v∈P/\v≠p:=by
 unfold others
 rw[List.mem_filter,decide_eq_true_eq]
structure Posts(n:Nat)(P:List Int):Prop where
 nd:P.Nodup
 rg:∀ x∈P,0<=x/\x<n
theorem Posts.ends{n:Nat}{P:List Int}(h:Posts n P){p:Int}(hp:p∈P):Flw.Ends n [p] (others P p) :=
 ⟨by simp,h.nd.filter _,fun s hs=>by rw[List.mem_singleton.mp hs];exact h.rg p hp,fun s hs=>h.rg s (mem_others.mp hs).1,fun s hs z=>(mem_others.mp z).2 (List.mem_singleton.mp hs)⟩
theorem Posts.len{n:Nat}{P:List Int}(h:Posts n P):P.length<=n:=Flw.nodup_len h.nd h.rg
noncomputable abbrev EndRec:=Addr×Addr×Addr
noncomputable def EndAt(H:Hp)(P:List Int)(x:EndRec)(p:Int):Prop:=H x.1=some (.tup [.ref x.2.1,.ref x.2.2])/\H x.2.1=some (.lst [.int p])/\H x.2.2=some (.lst ((others P p).map V.int))
theorem EndAt.same{H H':Hp}{P:List Int}{x:EndRec}{p:Int}(h:EndAt H P x p)(s:Same H H'):EndAt H' P x p:=⟨s _ _ h.1,s _ _ h.2.1,s _ _ h.2.2⟩
inductive spSnI(vs:List V)(H:Hp)(Q:VK):Prop where
 |mk (q:Addr) (n:Nat) (b:Bool) (P:List Int) (h1:vs=[.ref q]) (h2:H q=some (sqO b (P.map V.int))) (h3:Posts n P) (h4:n<=60) (h5:∀ (l:Addr) (xs:List EndRec) (H':Hp),H' l=some (.lst (xs.map fun x=>V.ref x.1))->Paired (EndAt H' P) xs P->Same H H'->Q (.ref l) H')
noncomputable def spSn:Sp:=fun vs H Q _=>spSnI vs H Q
theorem PairedApp{α β:Type}{F:α->β->Prop}:∀ {l₁ m₁:List α}{l₂ m₂:List β},Paired F l₁ l₂->Paired F m₁ m₂->Paired F (l₁++m₁) (l₂++m₂)
 | _,_,_,_,.nil,r=>r
 | _,_,_,_,.cons h t,r=>.cons h (PairedApp t r)
section
variable{P:Program}{w:World}{K:PySem.W.Frag}{mg:Str->Option Value}{base:Heap}
noncomputable abbrev nSn:List Str:=["posts"]
theorem scSn:FnScope nSn ["posts"] (defScope sSingleEnds):=⟨rfl,rfl,rfl,by decide +kernel,rfl,by decide +kernel,by decide +kernel⟩
theorem csSn1:CellScope "post" ["post","posts"] [none,some 0] nSn (defScope sSingleEnds) (scO [(".0",.local),("post",.cell),("posts",.free)]):=⟨rfl,fun _ _=>rfl,fun _=>rfl,by decide +kernel,by decide +kernel,by decide +kernel,by decide +kernel,rfl,capB_ok (by decide +kernel)⟩
theorem ndSn1:(["post","posts"]:List Str).Nodup:=by decide +kernel
theorem csSn2:CompScope ["other","post"] [none,some 0] ["post","posts"] (scO [(".0",.local),("post",.cell),("posts",.cell)]) (scO [(".0",.local),("other",.local),("post",.free)]):=⟨rfl,by decide +kernel,by decide +kernel,by decide +kernel,rfl,capB_ok (by decide +kernel)⟩
theorem ndSn2:(["other","post"]:List Str).Nodup:=by decide +kernel
noncomputable abbrev teSn2(K:PySem.W.Frag)(b:Bool):TE:=tComp [none,some 0] (iSeq b K (tVar 1)) (gName 0) (tTest (tOp rNe (tVar 0) (tVar 1))) (tVar 0)
theorem ok_sn{f:Addr}{fd:FuncData}(F:Fun K "single_ends" "single_ends" sSingleEnds f fd):FnOk P w K mg base CX0 1 f fd ["posts"] spSn:=by
 refine F.ok scSn (fun vs H Q E h=>?_) (fun cdv A outer s H vs Q E hr h=>?_)
 ·obtain⟨q,n,b,ps,rfl,_⟩:=h
  rfl
 ·obtain⟨q,n,b,ps,rfl,hq,po,nb,fin⟩:=h
  have pl:=po.len
  refine⟨_,(pss_one (ps_ret (pe_compC rfl csSn1 (pi_seq b (pv 0)) (fun C s H fp=>(pg_name (i:=0) ndSn1 rfl (Or.inr rfl) (Or.inl (by rfl)))) (fun C s H fp=>pf_nil) (fun C s H fp=>(@pe_tup _ _ _ _ _ (@pa_lst _ _ _ _ _ _ (@pe_lst _ _ _ _ (@pa_nam _ _ _ _ _ _ (pv 0) pa_nil)) (@pa_comp _ _ _ _ _ _ _ _ (show PE _ _ (teSn2 K b)from pe_comp rfl csSn2 (pi_seq b (pv 1)) (fun C s H fp=>(pg_name (i:=0) ndSn2 rfl (Or.inl rfl))) (fun C s H fp=>(pf_one (pt_cmpR op_ne (pv 0) (pv 1) (nomark _)))) (fun C s H fp=>(pv 0))) pa_nil))))))),?_⟩
  refine⟨_,rfl,q,rfl,⟨_,sqB_of hq⟩,?_⟩
  refine comp_seq (b:=b) (K:=K) (a:=q) (xs:=ps.map V.int) (fun j ys G=>Same H G/\∃ xs:List EndRec,ys=xs.map (fun x=>V.ref x.1)/\Paired (EndAt G ps) xs (ps.take j)) (by rw[List.length_map,sizeLine_eq];lia) ⟨Same.refl _,[],rfl,.nil⟩ (fun j ys G _ z=>sqB_of (z.1 _ _ hq)) ?_ ?_
  ·rintro j x ys G hx ⟨sG,xs,rfl,PX⟩
   obtain⟨il,e⟩:=List.getElem?_eq_some_iff.mp hx
   rw[List.length_map]at il
   rw[List.getElem_map]at e
   subst e
   have tk:=List.take_succ_eq_append_getElem il
   generalize ps[j]=pj at tk ⊢
   refine⟨⟨rfl,trivial⟩,tTru_if ⟨_,rfl,(by show 1<=sizeLine;decide),fun l1 hl1=>?_⟩⟩
   have s1:=Same.new (o:=.lst [V.int pj]) hl1
   have g1:(upd G l1 (.lst [V.int pj])) l1=some (.lst [V.int pj]):=upd_same
   generalize (upd G l1 (.lst [V.int pj]))=G1 at s1 g1
   have hq1:=s1 _ _ (sG _ _ hq)
   refine⟨_,rfl,q,rfl,⟨_,sqB_of hq1⟩,?_⟩
   refine comp_seq (b:=b) (K:=K) (a:=q) (xs:=ps.map V.int) (fun i zs G2=>Same G1 G2/\zs=(others (ps.take i) pj).map V.int) (by rw[List.length_map,sizeLine_eq];lia) ⟨Same.refl _,rfl⟩ (fun i zs G2 _ z=>sqB_of (z.1 _ _ hq1)) ?_ ?_
   ·rintro i x zs G2 hx ⟨s2,rfl⟩
    obtain⟨il2,e⟩:=List.getElem?_eq_some_iff.mp hx
    rw[List.length_map]at il2
    rw[List.getElem_map]at e
    subst e
    refine⟨⟨rfl,trivial⟩,_,rfl,_,rfl,rfl,_,rfl,?_⟩
    unfold others
    rw[List.take_succ_eq_append_getElem il2,List.filter_append,List.map_append]
    refine ite2 (fun h=>?_) (fun h=>?_)
    ·have h:ps[i]≠pj:=fun z=>by rw[z]at h;simp at h
     refine⟨_,rfl,s2,?_⟩
     rw[List.filter_cons,if_pos (decide_eq_true h)]
     rfl
    ·have h:¬ ps[i]≠pj:=fun z=>h (by simpa using z)
     refine⟨s2,?_⟩
     rw[List.filter_cons,if_neg (by rw[decide_eq_true_eq];exact h),List.filter_nil,List.map_nil,List.append_nil]
   ·rintro zs G2 zl ⟨s2,rfl⟩ l2 hl2
    rw[List.length_map,List.take_length]
    have s3:=Same.new (o:=.lst ((others ps pj).map V.int)) hl2
    refine⟨(by show 2<=sizeLine;decide),fun tp htp=>?_⟩
    have s4:=Same.new (o:=.tup [.ref l1,.ref l2]) htp
    have s14:=s1.trans (s2.trans (s3.trans s4))
    refine⟨sG.trans s14,xs++[(tp,l1,l2)],by rw[List.map_append];rfl,?_⟩
    rw[tk]
    exact PairedApp (Paired.mapP PX fun _ _ z=>z.same s14) (.cons ⟨upd_same,s4 _ _ (s3 _ _ (s2 _ _ g1)),s4 _ _ upd_same⟩ .nil)
  rintro ys G yl ⟨sG,xs,rfl,PX⟩ D hD
  rw[List.length_map,List.take_length]at PX
  have sD:=Same.new (o:=.lst (xs.map fun x=>V.ref x.1)) hD
  exact fin D xs _ upd_same (Paired.mapP PX fun _ _ z=>z.same sD) (sG.trans sD)
structure Told where
 r:Addr
 a:Addr
 s:Addr
 am:List Int
 side:List Int
structure ToldAt(H:Hp)(n:Nat)(ties:List Tie)(P:List Int)(x:Told)(p:Int):Prop where
 gr:H x.r=some (.tup [.int (Flw.val ties x.am [p]),.ref x.a,.ref x.s])
 ga:H x.a=some (.lst (x.am.map V.int))
 gs:H x.s=some (.lst (x.side.map V.int))
 ok:FlowTold n ties [p] (others P p) x.am x.side
theorem ToldAt.same{H H':Hp}{n:Nat}{ties:List Tie}{P:List Int}{x:Told}{p:Int}(h:ToldAt H n ties P x p)(s:Same H H'):ToldAt H' n ties P x p:=⟨s _ _ h.gr,s _ _ h.ga,s _ _ h.gs,h.ok⟩
noncomputable def adds(xs:List Told):List Addr:=xs.flatMap fun x=>[x.a,x.s]
theorem adds_app(xs ys:List Told):adds (xs++ys)=adds xs++adds ys:=by unfold adds;rw[List.flatMap_append]
theorem adds_some{H:Hp}{n:Nat}{ties:List Tie}{P:List Int}{xs:List Told}{ps:List Int}(h:Paired (ToldAt H n ties P) xs ps):∀ c∈adds xs,∃ o,H c=some o:=by
 induction h with
 |nil=>intro c hc;cases hc
 | @cons x p l1 l2 r _ ih =>
  intro c hc
  have hc:c∈[x.a,x.s]++adds l1:=hc
  rcases List.mem_append.mp hc with hc | hc
  ·rcases List.mem_cons.mp hc with e | hc
   ·rw[e];exact⟨_,r.ga⟩
   ·rw[List.mem_singleton.mp hc];exact⟨_,r.gs⟩
  ·exact ih c hc
inductive spSgI(vs:List V)(H:Hp)(Q:VK):Prop where
 |mk (t q:Addr) (n:Nat) (ties:List Tie) (b:Bool) (P:List Int) (h1:vs=[.ref t,.ref q]) (h2:WebAt H t n ties) (h3:(∀ x∈ties,TieOk n x)) (h4:n<=60) (h5:H q=some (sqO b (P.map V.int))) (h6:Posts n P) (h7:∀ (l:Addr) (xs:List Told) (H':Hp),H l=none->H' l=some (.lst (xs.map fun x=>V.ref x.r))->Paired (ToldAt H' n ties P) xs P->(adds xs).Nodup->(∀ c∈adds xs,H c=none)->l∉adds xs->Same H H'->Q (.ref l) H')
noncomputable def spSg:Sp:=fun vs H Q _=>spSgI vs H Q
noncomputable abbrev nSg:List Str:=["web","posts"]
theorem scSg:FnScope nSg ["web","posts"] (defScope sSingles):=⟨rfl,rfl,rfl,by decide +kernel,rfl,by decide +kernel,by decide +kernel⟩
theorem csSg1:CompScope ["sources","sinks","web"] [none,none,some 0] nSg (defScope sSingles) (scO [(".0",.local),("sources",.local),("sinks",.local),("flow",.globalImplicit),("web",.free)]):=⟨rfl,by decide +kernel,by decide +kernel,by decide +kernel,rfl,capB_ok (by decide +kernel)⟩
theorem ndSg1:(["sources","sinks","web"]:List Str).Nodup:=by decide +kernel
theorem ok_sg{f g1 g2:Addr}{fd d1 d2:FuncData}(F:Fun K "singles" "singles" sSingles f fd)(GE:CalF P w K mg base 1 "single_ends" ["posts"] spSn g1 d1)(GF:CalF P w K mg base 4 "flow" ["web","sources","sinks"] spFl g2 d2):FnOk P w K mg base CX0 5 f fd ["web","posts"] spSg:=by
 refine F.ok scSg (fun vs H Q E h=>?_) (fun cdv A outer s H vs Q E hr h=>?_)
 ·obtain⟨t,q,n,ties,b,ps,rfl,_⟩:=h
  rfl
 ·obtain⟨t,q,n,ties,b,ps,rfl,W,ok,nb,hq,po,fin⟩:=h
  have pl:=po.len
  have hr1:Room 1 _:=hr.mono (by decide)
  refine⟨_,(pss_one (ps_ret (pe_comp rfl csSg1 (pi_list (pe_call GE.ok hr1 rfl GE.mg GE.kp GE.bd .nil pass0 (@pa_nam _ _ _ _ _ _ (pv 1) pa_nil))) (fun C s H fp=>(pg_tupK K rfl (n:=2) rfl (pgs_cons (pg_name (i:=0) ndSg1 rfl (Or.inl rfl)) (pgs_cons (pg_name (i:=1) ndSg1 rfl (Or.inl rfl)) pgs_nil)) rfl rfl)) (fun C s H fp=>pf_nil) (fun C s H fp=>(pe_call GF.ok hr rfl GF.mg GF.kp GF.bd .nil pass0 (@pa_nam _ _ _ _ _ _ (pv 2) (@pa_nam _ _ _ _ _ _ (pv 0) (@pa_nam _ _ _ _ _ _ (pv 1) pa_nil)))))))),?_⟩
  refine⟨_,rfl,q,n,b,ps,rfl,hq,po,nb,fun l0 es H1 gl0 EA s1=>?_⟩
  have el:es.length=ps.length:=EA.length
  refine⟨l0,rfl,⟨_,SqL.of gl0⟩,?_⟩
  refine comp_list (K:=K) (a:=l0) (xs:=es.map fun x=>V.ref x.1) (fun j ys G=>Same H1 G/\∃ xs:List Told,ys=xs.map (fun x=>V.ref x.r)/\Paired (ToldAt G n ties ps) xs (ps.take j)/\(adds xs).Nodup/\∀ c∈adds xs,H1 c=none) (by rw[List.length_map,sizeLine_eq];lia) ⟨Same.refl _,[],rfl,.nil,List.nodup_nil,fun _ h=>nomatch h⟩ (fun j ys G _ z=>SqL.of (z.1 _ _ gl0)) ?_ ?_
  ·rintro j x ys G hx ⟨sG,xs,rfl,PX,ND,FR⟩
   obtain⟨il,e⟩:=List.getElem?_eq_some_iff.mp hx
   rw[List.length_map]at il
   rw[List.getElem_map]at e
   subst e
   have jl:j<ps.length:=by lia
   obtain⟨e1,e2,e3⟩:=(Paired.at EA j il jl).same sG
   refine⟨es[j].1,_,rfl,SqT.of e1,rfl,_,_,rfl,_,_,rfl,rfl,⟨rfl,trivial⟩,tTru_if ?_⟩
   refine⟨_,rfl,_,rfl,_,rfl,t,es[j].2.1,es[j].2.2,n,ties,false,false,[ps[j]],others ps ps[j],rfl,W.same (s1.trans sG),ok,nb,e2,e3,po.ends (List.getElem_mem jl),fun r a sd am side G2 hr ha hsd asd gr ga gsd FT s2=>?_⟩
   refine⟨sG.trans s2,xs++[⟨r,a,sd,am,side⟩],by rw[List.map_append];rfl,?_,?_,?_⟩
   ·rw[List.take_succ_eq_append_getElem jl]
    exact PairedApp (Paired.mapP PX fun _ _ z=>z.same s2) (.cons ⟨gr,ga,gsd,FT⟩ .nil)
   ·rw[adds_app,List.nodup_append]
    refine⟨ND,?_,fun c hc d hd' z=>?_⟩
    ·show [a,sd].Nodup
     simp[asd]
    ·obtain⟨o,ho⟩:=adds_some PX c hc
     subst z
     rcases List.mem_cons.mp (show c∈[a,sd]from hd')with e | e
     ·rw[e,ha]at ho;cases ho
     ·rw[List.mem_singleton.mp e,hsd]at ho;cases ho
   ·intro c hc
    rw[adds_app]at hc
    rcases List.mem_append.mp hc with hc | hc
    ·exact FR c hc
    ·rcases List.mem_cons.mp (show c∈[a,sd]from hc)with e | e
     ·rw[e];exact sG.free ha
     ·rw[List.mem_singleton.mp e];exact sG.free hsd
  rintro ys G yl ⟨sG,xs,rfl,PX,ND,FR⟩ D hD
  rw[List.length_map,el,List.take_length]at PX
  have sD:=Same.new (o:=.lst (xs.map fun x=>V.ref x.r)) hD
  have s2:=s1.trans sG
  refine fin D xs _ (s2.free hD) upd_same (Paired.mapP PX fun _ _ z=>z.same sD) ND (fun c hc=>s1.free (FR c hc)) (fun z=>?_) (s2.trans sD)
  obtain⟨o,ho⟩:=adds_some PX D z
  rw[hD]at ho
  cases ho
end
end K19
namespace Flw
noncomputable def wf(ties:List Tie)(f:Tie->Bool):Int:=((ties.filter f).map fun x=>x.2.2).sum
theorem wf_cons(x:Tie)(r:List Tie)(f:Tie->Bool):wf (x :: r) f=(if f x=true then x.2.2 else 0)+wf r f:=by
 unfold wf
 rw[List.filter_cons]
 split
 ·rw[List.map_cons,List.sum_cons]
 ·lia
theorem wf_congr:∀ {ties:List Tie}{f g:Tie->Bool},(∀ x∈ties,f x=g x)->wf ties f=wf ties g
 |[],f,g,_=>rfl
 |x :: r,f,g,h=>by
  rw[wf_cons,wf_cons,h x (List.mem_cons_self ..),wf_congr fun y hy=>h y (List.mem_cons_of_mem _ hy)]
theorem wf_le{ties:List Tie}{f g:Tie->Bool}(h0:∀ x∈ties,0<=x.2.2)(h:∀ x∈ties,f x=true->g x=true):wf ties f<=wf ties g:=by
 induction ties with
 |nil=>exact Int.le_refl _
 |cons x r ih =>
  rw[wf_cons,wf_cons]
  have:=ih (fun y hy=>h0 y (List.mem_cons_of_mem _ hy)) fun y hy=>h y (List.mem_cons_of_mem _ hy)
  have hx:=h0 x (List.mem_cons_self ..)
  have hf:=h x (List.mem_cons_self ..)
  by_cases c:f x=true
  ·rw[if_pos c,if_pos (hf c)];lia
  ·rw[if_neg c];split <;> lia
theorem sideW_wf(ties:List Tie)(L:List Int):sideW ties L=wf ties fun x=>decide (x.1∈L) != decide (x.2.1∈L):=rfl
noncomputable def cls(n:Nat)(ow:Int->Int)(p:Int):List Int:=(rng n).filter fun v=>decide (ow v=p)
theorem mem_cls{n:Nat}{ow:Int->Int}{p v:Int}:v∈cls n ow p↔(0<=v/\v<n)/\ow v=p:=by
 unfold cls
 rw[List.mem_filter,mem_rng,decide_eq_true_eq]
noncomputable def oneOf(ow:Int->Int)(p:Int)(x:Tie):Bool:=decide (ow x.1≠ow x.2.1) && (decide (ow x.1=p) || decide (ow x.2.1=p))
noncomputable def two(ow:Int->Int)(x:Tie):Bool:=decide (ow x.1≠ow x.2.1)
section
variable{n:Nat}{ties:List Tie}{ow:Int->Int}{P:List Int}
theorem cls_side(ok:∀ x∈ties,TOk n x)(p:Int):sideW ties (cls n ow p)=wf ties (oneOf ow p):=by
 rw[sideW_wf]
 refine wf_congr fun x hx=>?_
 obtain⟨o1,o2,o3,o4⟩:=ok x hx
 have h1:x.1∈cls n ow p↔ow x.1=p:=by rw[mem_cls];exact⟨fun z=>z.2,fun z=>⟨⟨o1,by lia⟩,z⟩⟩
 have h2:x.2.1∈cls n ow p↔ow x.2.1=p:=by rw[mem_cls];exact⟨fun z=>z.2,fun z=>⟨⟨by lia,o3⟩,z⟩⟩
 unfold oneOf
 have d1:decide (x.1∈cls n ow p)=decide (ow x.1=p):=decide_eq_decide.mpr h1
 have d2:decide (x.2.1∈cls n ow p)=decide (ow x.2.1=p):=decide_eq_decide.mpr h2
 rw[d1,d2]
 by_cases a:ow x.1=p <;> by_cases b:ow x.2.1=p
 ·simp[a,b]
 ·have:ow x.1≠ow x.2.1:=fun z=>b (by rw[<- z];exact a)
  simp[a,b,this]
  exact fun z=>b z.symm
 ·have:ow x.1≠ow x.2.1:=fun z=>a (by rw[z];exact b)
  simp[a,b,this]
 ·simp[a,b]
theorem sum_two(nd:P.Nodup):∀ {ties:List Tie},(∀ x∈ties,ow x.1∈P/\ow x.2.1∈P)->(P.map fun p=>wf ties (oneOf ow p)).sum=2 * wf ties (two ow)
 |[],_=>by
  have:(P.map fun p=>wf [] (oneOf ow p))=P.map fun _=>0:=rfl
  rw[this,sum_zero]
  rfl
 |x :: r,h=>by
  obtain⟨ha,hb⟩:=h x (List.mem_cons_self ..)
  have ih:=sum_two nd (ties:=r) fun y hy=>h y (List.mem_cons_of_mem _ hy)
  have e:(fun p=>wf (x :: r) (oneOf ow p))=fun p=>((if p=ow x.1 then(if two ow x=true then x.2.2 else 0)else 0)+(if p=ow x.2.1 then(if two ow x=true then x.2.2 else 0)else 0))+wf r (oneOf ow p):=by
   funext p
   rw[wf_cons]
   congr 1
   unfold oneOf two
   by_cases c:ow x.1=ow x.2.1
   ·simp[c]
   ·by_cases a:ow x.1=p
    ·have b:¬ p=ow x.2.1:=fun z=>c (by rw[a,z])
     rw[if_pos a.symm,if_neg b]
     simp[a]
    ·have a':¬ p=ow x.1:=fun z=>a z.symm
     rw[if_neg a']
     by_cases b:ow x.2.1=p
     ·rw[if_pos b.symm]
      simp[c,b]
     ·have b':¬ p=ow x.2.1:=fun z=>b z.symm
      rw[if_neg b']
      simp[a,b]
  rw[e,sum_add,sum_add,sum_pt _ _ nd,sum_pt _ _ nd,if_pos ha,if_pos hb,ih,wf_cons]
  lia
end
end Flw
namespace Shk
open Flw
structure RowF(n:Nat)(ps:List Int)(h:Int->Int):Prop where
 fix:∀ p∈ps,h p=p
 inn:∀ v:Int,0<=v->v<n->h v∈ps
section
variable{n k:Nat}{ps:List Int}{f:Int->Int}{ties tl:List Tie}
variable{k':Nat}{f':Int->Int}{tl':List Tie}{post:Int}{W:List Int}
structure LeastR(n:Nat)(ties:List Tie)(ps:List Int)(m:Int):Prop where
 some:∃ h,RowF n ps h/\wf ties (two h)=m
 all:∀ h,RowF n ps h->m<=wf ties (two h)
end
end Shk
namespace L2
open PySem PySem.W PyProof.Rows
theorem sl_listK{X:Cx}(K:PySem.W.Frag)(e:X.K=K):SlR X (rSlL K):=e▸sl_list
theorem cutV_frm(xs:List V)(j:Nat):cutV xs (some (j:Int)) none=xs.drop j:=by
 unfold cutV
 rw[HT.sIx_nat,HT.sIx_none]
 by_cases h:j<=xs.length
 ·rw[Nat.min_eq_left h,List.take_of_length_le (by rw[List.length_drop];lia)]
 ·rw[Nat.min_eq_right (by lia),List.drop_length,List.take_nil,List.drop_of_length_le (by lia)]
theorem cutV_til(xs:List V)(j:Nat):cutV xs none (some (j:Int))=xs.take j:=by
 unfold cutV
 rw[HT.sIx_nat,HT.sIx_none,List.drop_zero,Nat.sub_zero]
 by_cases h:j<=xs.length
 ·rw[Nat.min_eq_left h]
 ·rw[Nat.min_eq_right (by lia),List.take_length,List.take_of_length_le (by lia)]
end L2
namespace K19
open PySem L2 PyProof.Rows
noncomputable def LsAt(H:Hp)(as:List Addr)(ks:List (List Int)):Prop:=Paired (fun a k=>H a=some (.lst (k.map V.int))) as ks
theorem LsAt.same{H H':Hp}{as:List Addr}{ks:List (List Int)}(h:LsAt H as ks)(s:Same H H'):LsAt H' as ks:=Paired.mapP h fun _ _ e=>s _ _ e
theorem LsAt.upd{H:Hp}{as:List Addr}{ks:List (List Int)}{p:Addr}{o:HO}(h:LsAt H as ks)(ne:∀ a∈as,a≠p):LsAt (upd H p o) as ks:=by
 induction h with
 |nil=>exact .nil
 | @cons a k l1 l2 r _ ih=>exact .cons (by rw[upd_ne (ne a (List.mem_cons_self ..))];exact r) (ih fun b hb=>ne b (List.mem_cons_of_mem _ hb))
theorem PairedAppL{α β:Type}{F:α->β->Prop}{l₁ m₁:List α}{l₂ m₂:List β}(a:Paired F l₁ l₂)(b:Paired F m₁ m₂):Paired F (l₁++m₁) (l₂++m₂):=PairedApp a b
noncomputable def ext(ps:List Int)(v:Nat)(r:List Int):List (List Int):=ps.map fun p=>r.set v p
theorem set_cut{r:List Int}{v:Nat}{p:Int}(h:v<r.length):(r.map V.int).take v++[V.int p]++(r.map V.int).drop (v+1)=(r.set v p).map V.int:=by
 rw[List.set_eq_take_append_cons_drop,if_pos h,List.map_append,List.map_take,List.map_cons,List.map_drop,List.append_assoc]
 rfl
theorem nm_set{r:List Int}{v:Nat}{p u:Int}(h:v<r.length)(u0:0<=u):nmAt (r.set v p) u=if u=(v:Int)then p else nmAt r u:=by
 obtain⟨j,rfl⟩:∃ j:Nat,u=(j:Int):=⟨u.toNat,by lia⟩
 unfold nmAt
 rw[Int.toNat_natCast,List.getD_eq_getElem?_getD,List.getD_eq_getElem?_getD,List.getElem?_set]
 by_cases c:v=j
 ·rw[if_pos c]
  have e:(j:Int)=(v:Int):=by lia
  rw[if_pos e]
  first | rfl |(rw[if_pos h];rfl)
 ·rw[if_neg c,if_neg (by lia)]
structure RowsI(n:Nat)(ps:List Int)(fr:List Int)(rs:List (List Int)):Prop where
 sound:∀ r∈rs,r.length=n/\Shk.RowF n ps (nmAt r)
 all:∀ h,Shk.RowF n ps h->∃ r∈rs,∀ v∈fr,nmAt r v=h v
 few:rs.length<=7 ^ fr.length
theorem ext_len(ps:List Int)(v:Nat)(p7:ps.length<=7):∀ rs:List (List Int),(rs.flatMap (ext ps v)).length<=rs.length * 7
 |[]=>Nat.le_refl _
 |r :: rs=>by
  have i:=ext_len ps v p7 rs
  rw[List.flatMap_cons,List.length_append,List.length_cons]
  have:(ext ps v r).length=ps.length:=List.length_map _
  lia
theorem RowsI.step{n:Nat}{ps fr:List Int}{rs:List (List Int)}(R:RowsI n ps fr rs){v:Nat}(hv:v<n)(nv:(v:Int)∉ps)(p7:ps.length<=7)(pr:∀ p∈ps,0<=p/\p<n)(nn:∀ u∈fr,0<=u):RowsI n ps (fr++[(v:Int)]) (rs.flatMap (ext ps v)):=by
 refine⟨fun r hr=>?_,fun h hh=>?_,?_⟩
 ·obtain⟨r0,h0,hr⟩:=List.mem_flatMap.mp hr
  obtain⟨p,hp,rfl⟩:=List.mem_map.mp hr
  obtain⟨l,rf⟩:=R.sound r0 h0
  refine⟨by rw[List.length_set,l],fun q hq=>?_,fun u u0 u1=>?_⟩
  ·rw[nm_set (by lia) (pr q hq).1,if_neg (fun z=>nv (by rw[<- z];exact hq)),rf.fix q hq]
  ·rw[nm_set (by lia) u0]
   split
   ·exact hp
   ·exact rf.inn u u0 u1
 ·obtain⟨r,hr,e⟩:=R.all h hh
  obtain⟨l,rf⟩:=R.sound r hr
  refine⟨r.set v (h v),List.mem_flatMap.mpr ⟨r,hr,List.mem_map.mpr ⟨h v,hh.inn v (by lia) (by lia),rfl⟩⟩,fun u hu=>?_⟩
  have u0:0<=u:=by
   rcases List.mem_append.mp hu with z | z
   ·exact nn u z
   ·rw[List.mem_singleton.mp z];lia
  rw[nm_set (by lia) u0]
  by_cases c:u=(v:Int)
  ·rw[if_pos c,c]
  ·rw[if_neg c]
   rcases List.mem_append.mp hu with z | z
   ·exact e u z
   ·exact absurd (List.mem_singleton.mp z) c
 ·have:=ext_len ps v p7 rs
  have:=R.few
  rw[List.length_append,List.length_singleton,Nat.pow_succ]
  lia
noncomputable def rowC(ties:List Tie)(r:List Int):Int:=Flw.wf ties (Flw.two (nmAt r))
theorem RowsI.least{n:Nat}{ps fr:List Int}{ties:List Tie}{rs:List (List Int)}(R:RowsI n ps fr rs)(ok:∀ x∈ties,TieOk n x)(full:∀ v:Int,0<=v->v<n->v∈ps\/v∈fr){m:Int}(hm:m∈rs.map (rowC ties))(hl:∀ a∈rs.map (rowC ties),m<=a):Shk.LeastR n ties ps m:=by
 obtain⟨r,hr,e⟩:=List.mem_map.mp hm
 refine⟨⟨nmAt r,(R.sound r hr).2,e⟩,fun h hh=>?_⟩
 obtain⟨r',hr',e'⟩:=R.all h hh
 have rf:=(R.sound r' hr').2
 have eq:∀ v:Int,0<=v->v<n->nmAt r' v=h v:=fun v v0 v1=>by
  rcases full v v0 v1 with z | z
  ·rw[rf.fix v z,hh.fix v z]
  ·exact e' v z
 have:=hl _ (List.mem_map.mpr ⟨r',hr',rfl⟩)
 have c:rowC ties r'=Flw.wf ties (Flw.two h):=Flw.wf_congr fun x hx=>by
  obtain⟨o1,o2,o3,o4⟩:=ok x hx
  unfold Flw.two
  rw[eq x.1 o1 (by lia),eq x.2.1 (by lia) o3]
 lia
noncomputable def bas(n:Nat)(ps:List Int):List Int:=(upto n).map fun v=>if v∈ps then v else ps.headD 0
theorem base_at{n:Nat}{ps:List Int}{v:Int}(v0:0<=v)(v1:v<n):nmAt (bas n ps) v=if v∈ps then v else ps.headD 0:=by
 obtain⟨j,rfl⟩:∃ j:Nat,v=(j:Int):=⟨v.toNat,by lia⟩
 obtain⟨h,e⟩:=upto_get (n:=n) (i:=j) (by lia)
 unfold nmAt bas
 rw[Int.toNat_natCast,List.getD_eq_getElem?_getD,List.getElem?_map,List.getElem?_eq_getElem h,e]
 rfl
theorem head_mem{ps:List Int}(h:1<=ps.length):ps.headD 0∈ps:=by
 cases ps with
 |nil=>exact absurd h (by decide)
 |cons x r=>exact List.mem_cons_self ..
theorem rows_start{n:Nat}{ps:List Int}(h:1<=ps.length)(pr:∀ p∈ps,0<=p/\p<n):RowsI n ps [] [bas n ps]:=by
 refine⟨fun r hr=>?_,fun h _=>⟨_,List.mem_singleton.mpr rfl,fun v hv=>nomatch hv⟩,Nat.le_refl _⟩
 rw[List.mem_singleton.mp hr]
 refine⟨by unfold bas;rw[List.length_map,upto_len],fun p hp=>?_,fun v v0 v1=>?_⟩
 ·rw[base_at (pr p hp).1 (pr p hp).2,if_pos hp]
 ·rw[base_at v0 v1]
  split
  ·assumption
  ·exact head_mem h
noncomputable def frees(n:Nat)(ps:List Int):List Int:=(upto n).filter fun v=>!decide (v∈ps)
inductive spLeI(vs:List V)(H:Hp)(Q:VK):Prop where
 |mk (t q:Addr) (n:Nat) (ties:List Tie) (ps:List Int) (h1:vs=[.ref t,.ref q]) (h2:WebAt H t n ties) (h3:(∀ x∈ties,TieOk n x)) (h4:n<=7) (h5:H q=some (.lst (ps.map V.int))) (h6:1<=ps.length) (h7:ps.length<=7) (h8:(∀ p∈ps,0<=p/\p<n)) (h9:∀ (m:Int) (H':Hp),Shk.LeastR n ties ps m->Same H H'->Q (.int m) H')
noncomputable def spLe:Sp:=fun vs H Q _=>spLeI vs H Q
theorem at0{x:V}{r:List V}:atI (x :: r) 0=some x:=atI_nat (j:=0) rfl
theorem head_at{ps:List Int}(h:1<=ps.length):atI (ps.map V.int) 0=some (V.int (ps.headD 0)):=by
 cases ps with
 |nil=>exact absurd h (by decide)
 |cons x r=>exact atI_nat (j:=0) rfl
section
variable{P:Program}{w:World}{K:PySem.W.Frag}{mg:Str->Option Value}{base:Heap}
noncomputable abbrev nLe:List Str:=["_law_web_here","_law_posts_here","_law_rows","_law_place","_law_longer","_law_row"]
theorem scLe:FnScope nLe ["_law_web_here","_law_posts_here"] (defScope sLeast):=⟨rfl,rfl,rfl,by decide +kernel,rfl,by decide +kernel,by decide +kernel⟩
theorem csLe1:CompScope ["_law_place","_law_posts_here"] [none,some 1] nLe (defScope sLeast) (scO [(".0",.local),("_law_place",.local),("_law_posts_here",.free)]):=⟨rfl,by decide +kernel,by decide +kernel,by decide +kernel,rfl,capB_ok (by decide +kernel)⟩
theorem ndLe1:(["_law_place","_law_posts_here"]:List Str).Nodup:=by decide +kernel
theorem csLe2:CompScope ["_law_place","_law_posts_here"] [none,some 1] nLe (defScope sLeast) (scO [(".0",.local),("_law_place",.local),("_law_posts_here",.free)]):=⟨rfl,by decide +kernel,by decide +kernel,by decide +kernel,rfl,capB_ok (by decide +kernel)⟩
theorem ndLe2:(["_law_place","_law_posts_here"]:List Str).Nodup:=by decide +kernel
theorem csLe3:CompScope ["_law_post","_law_row","_law_place"] [none,some 5,some 3] nLe (defScope sLeast) (scO [(".0",.local),("_law_post",.local),("_law_place",.free),("_law_row",.free)]):=⟨rfl,by decide +kernel,by decide +kernel,by decide +kernel,rfl,capB_ok (by decide +kernel)⟩
theorem ndLe3:(["_law_post","_law_row","_law_place"]:List Str).Nodup:=by decide +kernel
theorem csLe4:CellScope "_law_row" ["_law_row","_law_web_here"] [none,some 0] nLe (defScope sLeast) (scO [(".0",.local),("_law_row",.cell),("sum",.globalImplicit),("_law_web_here",.free)]):=⟨rfl,fun _ _=>rfl,fun _=>rfl,by decide +kernel,by decide +kernel,by decide +kernel,by decide +kernel,rfl,capB_ok (by decide +kernel)⟩
theorem ndLe4:(["_law_row","_law_web_here"]:List Str).Nodup:=by decide +kernel
theorem csLe5:CompScope ["_law_a","_law_b","_law_weight_here","_law_row"] [none,none,none,some 0] ["_law_row","_law_web_here"] (scO [(".0",.local),("_law_row",.cell),("sum",.globalImplicit),("_law_web_here",.cell)]) (scO [(".0",.local),("_law_a",.local),("_law_b",.local),("_law_weight_here",.local),("_law_row",.free)]):=⟨rfl,by decide +kernel,by decide +kernel,by decide +kernel,rfl,capB_ok (by decide +kernel)⟩
theorem ndLe5:(["_law_a","_law_b","_law_weight_here","_law_row"]:List Str).Nodup:=by decide +kernel
noncomputable abbrev teLe5(K:PySem.W.Frag):TE:=tComp [none,none,none,some 0] (iTup K (tOp rIxTh (tVar 1) (tC (.int 1)))) (gTup K 3 (gCons (gName 0) (gCons (gName 1) (gCons (gName 2) gNil)))) (tTest (tOp rNe (tOp rIxLh (tVar 3) (tVar 0)) (tOp rIxLh (tVar 3) (tVar 1)))) (tVar 2)
theorem ok_le{f:Addr}{fd:FuncData}(F:Fun K "_law_least" "_law_least" sLeast f fd)(T:Txt mg):FnOk P w K mg base CX0 1 f fd ["_law_web_here","_law_posts_here"] spLe:=by
 refine F.ok scLe (fun vs H Q E h=>?_) (fun cdv A outer s H vs Q E hr h=>?_)
 ·obtain⟨t,q,n,ties,ps,rfl,_⟩:=h
  rfl
 ·obtain⟨t,q,n,ties,ps,rfl,W,ok,n7,hq,p1,p7,pr,fin⟩:=h
  obtain⟨⟨ts,bs,h1,h2,h3⟩,len⟩:=id W
  have h3l:bs.length=ties.length:=h3.length
  refine⟨_,(pss_cons (ps_set (i:=2) scLe.nd rfl (Or.inl rfl) (@pe_lst _ _ _ _ (@pa_comp _ _ _ _ _ _ _ _ (pe_comp rfl csLe1 (pi_range1 rfl T.range (@pa_sub _ _ _ _ _ _ _ (@pe_ix _ _ _ _ _ _ _ ix_tupH (pv 0) pe_int (fun _ _=>rfl)) pa_nil)) (fun C s H fp=>(pg_name (i:=0) ndLe1 rfl (Or.inl rfl))) (fun C s H fp=>pf_nil) (fun C s H fp=>(pe_ifExp (pt_cmpR op_inH (pv 0) (pv 1) rfl) (pv 0) (@pe_ix _ _ _ _ _ _ _ ix_listH (pv 1) pe_int (fun _ _=>rfl))))) pa_nil)))
   (pss_cons (ps_for PassesOwn.never rfl (pi_list (pe_comp rfl csLe2 (pi_range1 rfl T.range (@pa_sub _ _ _ _ _ _ _ (@pe_ix _ _ _ _ _ _ _ ix_tupH (pv 0) pe_int (fun _ _=>rfl)) pa_nil)) (fun C s H fp=>(pg_name (i:=0) ndLe2 rfl (Or.inl rfl))) (fun C s H fp=>(pf_one (pt_cmpR op_notInH (pv 0) (pv 1) rfl))) (fun C s H fp=>(pv 0)))) (pg_name (i:=3) scLe.nd rfl (Or.inr rfl))
   (pss_cons (ps_set (i:=4) scLe.nd rfl (Or.inl rfl) (@pe_lst _ _ _ _ pa_nil))
   (pss_cons (ps_for PassesOwn.never rfl (pi_list (pv 2)) (pg_name (i:=5) scLe.nd rfl (Or.inr rfl))
   (pss_one (ps_expr (pe_bmH PySem.F.slot_list_extend PySem.F.type_list_extend mt_extend (pv 4) (@pa_comp _ _ _ _ _ _ _ _ (pe_comp rfl csLe3 (pi_list (pv 1)) (fun C s H fp=>(pg_name (i:=0) ndLe3 rfl (Or.inl rfl))) (fun C s H fp=>pf_nil) (fun C s H fp=>(pe_op op_cat (pe_op op_cat (pe_slice (sl_listK K rfl) (pv 1) po_none (po_some (pv 2))) (@pe_lst _ _ _ _ (@pa_nam _ _ _ _ _ _ (pv 0) pa_nil))) (pe_slice (sl_listK K rfl) (pv 1) (po_some (pe_op op_add (pv 2) pe_int)) po_none)))) pa_nil)))))
   (pss_one (ps_set (i:=2) scLe.nd rfl (Or.inl rfl) (pv 4))))))
   (pss_one (ps_ret (pe_callB (call_minLH rfl) (by rfl) T.min boot_min (@pa_comp _ _ _ _ _ _ _ _ (pe_compC rfl csLe4 (pi_list (pv 2)) (fun C s H fp=>(pg_name (i:=0) ndLe4 rfl (Or.inr rfl) (Or.inl (by rfl)))) (fun C s H fp=>pf_nil) (fun C s H fp=>(pe_callB (call_sumH rfl) (by rfl) T.sum boot_sum (@pa_comp _ _ _ _ _ _ _ _ (show PE _ _ (teLe5 K)from pe_comp rfl csLe5 (pi_tup (@pe_ix _ _ _ _ _ _ _ ix_tupH (pv 1) pe_int (fun _ _=>rfl))) (fun C s H fp=>(pg_tupK K rfl (n:=3) rfl (pgs_cons (pg_name (i:=0) ndLe5 rfl (Or.inl rfl)) (pgs_cons (pg_name (i:=1) ndLe5 rfl (Or.inl rfl)) (pgs_cons (pg_name (i:=2) ndLe5 rfl (Or.inl rfl)) pgs_nil))) rfl rfl)) (fun C s H fp=>(pf_one (pt_cmpR op_ne (@pe_ix _ _ _ _ _ _ _ ix_listH (pv 3) (pv 0) (fun _ _=>rfl)) (@pe_ix _ _ _ _ _ _ _ ix_listH (pv 3) (pv 1) (fun _ _=>rfl)) (nomark _)))) (fun C s H fp=>(pv 2))) pa_nil)))) pa_nil)))))),?_⟩
  refine⟨_,rfl,t,_,_,_,rfl,rfl,h1,rfl,_,rfl,by lia,by lia,?_⟩
  rw[show((n:Int)).toNat=n by lia]
  refine comp_range (lo:=0) (n:=n) (fun i ys G=>Same H G/\ys=((upto i).map fun v=>if v∈ps then v else ps.headD 0).map V.int) (by rw[sizeLine_eq];lia) ⟨Same.refl _,rfl⟩ ?_ ?_
  ·rintro v ys G hv ⟨sG,rfl⟩
   have e:upto (v+1)=upto v++[(v:Int)]:=by unfold upto;rw[List.range_succ,List.map_append];rfl
   rw[e,List.map_append,List.map_append,show(0:Int)+(v:Int)=(v:Int)from Int.zero_add _]
   refine⟨⟨rfl,trivial⟩,tTru_if ⟨_,rfl,_,rfl,q,_,rfl,sG _ _ hq,rfl,flat_ints _,_,rfl,ite2 (fun hc=>?_) (fun hc=>?_)⟩⟩
   ·have hm:(v:Int)∈ps:=by
     have:inV (V.int (v:Int)) (ps.map V.int)=true:=hc
     rw[inV_ints]at this
     exact List.contains_iff_mem.mp this
    refine⟨_,rfl,sG,?_⟩
    show _=_++[V.int (if(v:Int)∈ps then(v:Int)else ps.headD 0)]
    rw[if_pos hm]
   ·have hm:(v:Int)∉ps:=fun z=>hc (by show inV (V.int (v:Int)) (ps.map V.int)=true;rw[inV_ints];exact List.contains_iff_mem.mpr z)
    refine⟨_,rfl,q,_,_,_,rfl,rfl,sG _ _ hq,head_at p1,sG,?_⟩
    show _=_++[V.int (if(v:Int)∈ps then(v:Int)else ps.headD 0)]
    rw[if_neg hm]
  rintro ys G yl ⟨sG,rfl⟩ D hD
  have eB:((upto n).map fun v=>if v∈ps then v else ps.headD 0)=bas n ps:=rfl
  rw[eB]
  have s1:=sG.trans (Same.new (o:=.lst ((bas n ps).map V.int)) hD)
  have gD:(upd G D (.lst ((bas n ps).map V.int))) D=some (.lst ((bas n ps).map V.int)):=upd_same
  generalize (upd G D (.lst ((bas n ps).map V.int)))=H1 at s1 gD
  refine⟨(by show 1<=sizeLine;decide),fun rl hrl=>?_⟩
  have s2:=s1.trans (Same.new (o:=.lst [V.ref D]) hrl)
  have grl:(upd H1 rl (.lst [V.ref D])) rl=some (.lst [V.ref D]):=upd_same
  have gD2:=(Same.new (o:=.lst [V.ref D]) hrl) _ _ gD
  generalize (upd H1 rl (.lst [V.ref D]))=H2 at s2 grl gD2
  clear s1 gD
  refine⟨_,rfl,t,_,_,_,rfl,rfl,s2 _ _ h1,rfl,_,rfl,by lia,by lia,?_⟩
  rw[show((n:Int)).toNat=n by lia]
  refine comp_range (lo:=0) (n:=n) (fun i ys G=>Same H2 G/\ys=(frees i ps).map V.int) (by rw[sizeLine_eq];lia) ⟨Same.refl _,rfl⟩ ?_ ?_
  ·rintro v ys G hv ⟨sG,rfl⟩
   have e:upto (v+1)=upto v++[(v:Int)]:=by unfold upto;rw[List.range_succ,List.map_append];rfl
   unfold frees
   rw[e,List.filter_append,List.map_append,show(0:Int)+(v:Int)=(v:Int)from Int.zero_add _]
   refine⟨⟨rfl,trivial⟩,_,rfl,_,rfl,q,_,rfl,sG _ _ (s2 _ _ hq),rfl,flat_ints _,_,rfl,ite2 (fun hc=>?_) (fun hc=>?_)⟩
   ·have hm:(v:Int)∉ps:=fun z=>by
     have:(!inV (V.int (v:Int)) (ps.map V.int))=true:=hc
     rw[inV_ints,List.contains_iff_mem.mpr z]at this
     cases this
    refine⟨_,rfl,sG,?_⟩
    rw[List.filter_cons_of_pos (by rw[decide_eq_false hm];rfl),List.filter_nil]
    rfl
   ·have hm:(v:Int)∈ps:=by
     have c:¬(!inV (V.int (v:Int)) (ps.map V.int))=true:=hc
     rw[inV_ints]at c
     cases e:ps.contains (v:Int)with
     |true=>exact List.contains_iff_mem.mp e
     |false=>rw[e]at c;exact absurd rfl c
    refine⟨sG,?_⟩
    rw[List.filter_cons_of_neg (by rw[decide_eq_true hm];decide),List.filter_nil,List.map_nil,List.append_nil]
  rintro ys G3 yl3 ⟨sG3,rfl⟩ fl hfl
  have s3:=sG3.trans (Same.new (o:=.lst ((frees n ps).map V.int)) hfl)
  have gfl:(upd G3 fl (.lst ((frees n ps).map V.int))) fl=some (.lst ((frees n ps).map V.int)):=upd_same
  generalize (upd G3 fl (.lst ((frees n ps).map V.int)))=H4 at s3 gfl
  have fl7:(frees n ps).length<=7:=by
   have:=List.length_filter_le (fun v=>!decide (v∈ps)) (upto n)
   rw[upto_len]at this
   exact Nat.le_trans this n7
  have frm:∀ v∈frees n ps,(0<=v/\v<n)/\v∉ps:=fun v hv=>by
   obtain⟨a,b⟩:=List.mem_filter.mp hv
   refine⟨mem_uptoI.mp a,fun z=>?_⟩
   rw[decide_eq_true z]at b
   cases b
  have full:∀ v:Int,0<=v->v<n->v∈ps\/v∈frees n ps:=fun v v0 v1=>by
   by_cases c:v∈ps
   ·exact .inl c
   ·exact .inr (List.mem_filter.mpr ⟨mem_uptoI.mpr ⟨v0,v1⟩,by rw[decide_eq_false c];rfl⟩)
  have s4:=s2.trans s3
  generalize frees n ps=fr at *
  have pow:∀ i,i<=7->7 ^ i<=823543:=fun i hi=>Nat.le_trans (Nat.pow_le_pow_right (by decide) hi) (by decide)
  refine⟨fl,rfl,⟨_,SqL.of gfl⟩,?_⟩
  refine for_list (K:=K) (a:=fl) (xs:=fr.map V.int) (fun i σ G=>∃ (rl:Addr) (as:List Addr) (rs:List (List Int)) (v3 v4 v5:Option V),σ=[some (.ref t),some (.ref q),some (.ref rl),v3,v4,v5]/\Same H4 G/\G rl=some (.lst (as.map V.ref))/\LsAt G as rs/\RowsI n ps (fr.take i) rs) ⟨rl,[D],[bas n ps],_,_,_,rfl,Same.refl _,s3 _ _ grl,.cons (s3 _ _ gD2) .nil,by rw[List.take_zero];exact rows_start p1 pr⟩ (fun i σ G _ z=>by obtain⟨_,_,_,_,_,_,_,s,_⟩:=z;exact SqL.of (s _ _ gfl)) ?_ ?_
  ·rintro i x σ G hx ⟨rl,as,rs,v3,v4,v5,rfl,sG,grl,hL,R⟩
   obtain⟨il,e⟩:=List.getElem?_eq_some_iff.mp hx
   rw[List.length_map]at il
   rw[List.getElem_map]at e
   subst e
   obtain⟨⟨v0,v1⟩,nv⟩:=frm _ (List.getElem_mem il)
   have nn:∀ u∈fr.take i,0<=u:=fun u hu=>(frm u (List.mem_of_mem_take hu)).1.1
   rw[List.take_succ_eq_append_getElem il]
   obtain⟨v,ev⟩:∃ v:Nat,fr[i]=(v:Int):=⟨fr[i].toNat,by lia⟩
   rw[ev]at v0 v1 nv ⊢
   have al:as.length=rs.length:=Paired.length hL
   have few:=R.few
   have ti:(fr.take i).length=i:=by rw[List.length_take];lia
   rw[ti]at few
   have pw6:=pow i (by lia)
   have R2:=R.step (v:=v) (by lia) nv p7 pr nn
   refine⟨(by show 0<=sizeLine;decide),fun lo hlo=>?_⟩
   have lo0:G lo=none:=hlo
   have grl2:=(Same.new (o:=.lst []) hlo) _ _ grl
   refine⟨_,rfl,rl,rfl,⟨_,SqL.of grl2⟩,?_⟩
   refine for_list (K:=K) (a:=rl) (xs:=as.map V.ref) (fun j σ G2=>∃ (bs:List Addr) (v5:Option V),σ=[some (.ref t),some (.ref q),some (.ref rl),some (.int (v:Int)),some (.ref lo),v5]/\Same G G2/\G2 lo=some (.lst (bs.map V.ref))/\LsAt G2 bs ((rs.take j).flatMap (ext ps v))/\∀ b∈bs,b≠lo) ⟨[],_,rfl,Same.new hlo,upd_same,.nil,fun _ h=>nomatch h⟩ (fun j σ G2 _ z=>by obtain⟨_,_,_,s,_⟩:=z;exact SqL.of (s _ _ grl)) ?_ ?_
   ·rintro j x σ G2 hx2 ⟨bs,v5,rfl,s2',glo,hB,nb⟩
    obtain⟨jl,e⟩:=List.getElem?_eq_some_iff.mp hx2
    rw[List.length_map]at jl
    rw[List.getElem_map]at e
    subst e
    have jr:j<rs.length:=by lia
    have ga:=s2' _ _ (Paired.at hL j jl jr)
    have rlen:=(R.sound _ (List.getElem_mem jr)).1
    have gq:=s2' _ _ (sG _ _ (s4 _ _ hq))
    refine⟨_,rfl,⟨_,_,rfl,glo⟩,_,rfl,q,rfl,⟨_,SqL.of gq⟩,?_⟩
    refine comp_list (K:=K) (a:=q) (xs:=ps.map V.int) (fun i ys G3=>Same G2 G3/\∃ cs:List Addr,ys=cs.map V.ref/\LsAt G3 cs ((ps.take i).map fun p=>rs[j].set v p)/\∀ c∈cs,G2 c=none) (by rw[List.length_map,sizeLine_eq];lia) ⟨Same.refl _,[],rfl,.nil,fun _ h=>nomatch h⟩ (fun i ys G3 _ z=>SqL.of (z.1 _ _ gq)) ?_ ?_
    ·rintro i x ys G3 hx3 ⟨s3',cs,rfl,hC,fc⟩
     obtain⟨il3,e⟩:=List.getElem?_eq_some_iff.mp hx3
     rw[List.length_map]at il3
     rw[List.getElem_map]at e
     subst e
     have ga3:=s3' _ _ ga
     refine⟨⟨rfl,rfl,trivial⟩,tTru_if ⟨_,rfl,_,rfl,_,rfl,as[j],_,rfl,SqL.of ga3,fun l1 hl1=>?_⟩⟩
     rw[cutV_til]
     have s31:=Same.new (o:=.lst ((rs[j].map V.int).take v)) hl1
     have g1:(L2.upd G3 l1 (.lst ((rs[j].map V.int).take v))) l1=some (.lst ((rs[j].map V.int).take v)):=upd_same
     generalize (L2.upd G3 l1 (.lst ((rs[j].map V.int).take v)))=G4 at s31 g1
     refine⟨_,rfl,(by show 1<=sizeLine;decide),fun l2 hl2=>?_⟩
     have s42:=Same.new (o:=.lst [V.int ps[i]]) hl2
     have g2:(L2.upd G4 l2 (.lst [V.int ps[i]])) l2=some (.lst [V.int ps[i]]):=upd_same
     have g1':=s42 _ _ g1
     generalize (L2.upd G4 l2 (.lst [V.int ps[i]]))=G5 at s42 g2 g1'
     have tl:((rs[j].map V.int).take v).length<=7:=by rw[List.length_take,List.length_map];lia
     refine⟨l1,l2,_,_,rfl,rfl,g1',g2,by rw[sizeLine_eq];show _+1<=_;lia,fun l3 hl3=>?_⟩
     have s53:=Same.new (o:=.lst ((rs[j].map V.int).take v++[V.int ps[i]])) hl3
     have g3:(L2.upd G5 l3 (.lst ((rs[j].map V.int).take v++[V.int ps[i]]))) l3=some (.lst ((rs[j].map V.int).take v++[V.int ps[i]])):=upd_same
     generalize (L2.upd G5 l3 (.lst ((rs[j].map V.int).take v++[V.int ps[i]])))=G6 at s53 g3
     have s36:=s31.trans (s42.trans s53)
     refine⟨_,rfl,_,rfl,_,_,rfl,rfl,_,rfl,as[j],_,rfl,SqL.of (s36 _ _ ga3),fun l4 hl4=>?_⟩
     have ec:cutV (rs[j].map V.int) (some ((v:Int)+1)) none=(rs[j].map V.int).drop (v+1):=cutV_frm _ (v+1)
     rw[ec]
     have s64:=Same.new (o:=.lst ((rs[j].map V.int).drop (v+1))) hl4
     have g4:(L2.upd G6 l4 (.lst ((rs[j].map V.int).drop (v+1)))) l4=some (.lst ((rs[j].map V.int).drop (v+1))):=upd_same
     have g3':=s64 _ _ g3
     generalize (L2.upd G6 l4 (.lst ((rs[j].map V.int).drop (v+1))))=G7 at s64 g4 g3'
     have dl:((rs[j].map V.int).drop (v+1)).length<=7:=by rw[List.length_drop,List.length_map];lia
     refine⟨l3,l4,_,_,rfl,rfl,g3',g4,by rw[sizeLine_eq,List.length_append];show _+1+_<=_;lia,fun l5 hl5=>?_⟩
     have s37:=s36.trans (s64.trans (Same.new (o:=.lst ((rs[j].map V.int).take v++[V.int ps[i]]++(rs[j].map V.int).drop (v+1))) hl5))
     refine⟨s3'.trans s37,cs++[l5],by rw[List.map_append];rfl,?_,fun c hc=>?_⟩
     ·rw[List.take_succ_eq_append_getElem il3,List.map_append]
      refine Paired.snoc (hC.same s37) ?_
      rw[upd_same,set_cut (by lia)]
     ·rcases List.mem_append.mp hc with z | z
      ·exact fc c z
      ·rw[List.mem_singleton.mp z]
       exact(s3'.trans (s36.trans s64)).free hl5
    ·rintro ys G3 yl3 ⟨s3',cs,rfl,hC,fc⟩ cl hcl
     rw[List.length_map,List.take_length]at hC
     have hCe:LsAt G3 cs (ext ps v rs[j]):=hC
     have sC:=Same.new (o:=.lst (cs.map V.ref)) hcl
     have gcl:(L2.upd G3 cl (.lst (cs.map V.ref))) cl=some (.lst (cs.map V.ref)):=upd_same
     have sG2:=s3'.trans sC
     have hB3:=hB.same sG2
     have hC3:=hCe.same sC
     have glo3:=sG2 _ _ glo
     have lolen:bs.length<=823543 * 7:=by
      have e1:bs.length=((rs.take j).flatMap (ext ps v)).length:=Paired.length hB
      have e2:=ext_len ps v p7 (rs.take j)
      have e3:(rs.take j).length<=rs.length:=by rw[List.length_take];lia
      lia
     have clen:cs.length<=7:=by
      have e1:cs.length=(ext ps v rs[j]).length:=Paired.length hCe
      have e2:(ext ps v rs[j]).length=ps.length:=List.length_map _
      lia
     generalize (L2.upd G3 cl (.lst (cs.map V.ref)))=G4 at gcl sG2 hB3 hC3 glo3
     refine⟨lo,cl,_,_,rfl,rfl,glo3,gcl,by rw[List.length_map,List.length_map,sizeLine_eq];lia,?_⟩
     have ncs:∀ c∈cs,c≠lo:=fun c hc z=>by
      have:=fc c hc
      rw[z,glo]at this
      cases this
     refine⟨bs++cs,_,rfl,fun b o e=>?_,by rw[upd_same,List.map_append],?_,fun b hb=>?_⟩
     ·rw[upd_ne (ne_of_none e lo0)]
      exact sG2 _ _ (s2' _ _ e)
     ·rw[List.take_succ_eq_append_getElem jr,List.flatMap_append]
      refine PairedAppL (hB3.upd nb) ?_
      have:[rs[j]].flatMap (ext ps v)=ext ps v rs[j]:=by simp
      rw[this]
      exact hC3.upd ncs
     ·rcases List.mem_append.mp hb with z | z
      ·exact nb b z
      ·exact ncs b z
   ·rintro σ G2 ⟨bs,v5,rfl,s2',glo,hB,nb⟩
    rw[List.length_map,al,List.take_length]at hB
    exact⟨_,rfl,lo,bs,_,_,_,_,rfl,sG.trans s2',glo,hB,R2⟩
  ·rintro σ G ⟨rl,as,rs,v3,v4,v5,rfl,sG,grl,hL,R⟩
   rw[List.length_map,List.take_length]at R
   have al:as.length=rs.length:=Paired.length hL
   have few:=R.few
   have pw6:=pow fr.length fl7
   have sH:=s4.trans sG
   refine⟨_,rfl,rl,rfl,⟨_,SqL.of grl⟩,?_⟩
   refine comp_list (K:=K) (a:=rl) (xs:=as.map V.ref) (fun i ys G2=>Same G G2/\ys=((rs.take i).map (rowC ties)).map V.int) (by rw[List.length_map,sizeLine_eq];lia) ⟨Same.refl _,rfl⟩ (fun i ys G2 _ z=>SqL.of (z.1 _ _ grl)) ?_ ?_
   ·rintro i x ys G2 hx ⟨s2',rfl⟩
    obtain⟨il,e⟩:=List.getElem?_eq_some_iff.mp hx
    rw[List.length_map]at il
    rw[List.getElem_map]at e
    subst e
    have ir:i<rs.length:=by lia
    have rlen:=(R.sound _ (List.getElem_mem ir)).1
    have ga:=s2' _ _ (Paired.at hL i il ir)
    have sH2:=sH.trans s2'
    have h12:=sH2 _ _ h1
    have h22:=sH2 _ _ h2
    have h32:Paired (fun a x=>G2 a=some (.tup (tieV x))) bs ties:=Paired.mapP h3 fun _ _ e=>sH2 _ _ e
    rw[List.take_succ_eq_append_getElem ir,List.map_append,List.map_append]
    generalize rs[i]=r at *
    refine⟨⟨rfl,trivial⟩,tTru_if ⟨_,rfl,t,_,_,_,rfl,rfl,h12,atI_nat (j:=1) rfl,ts,rfl,⟨_,SqT.of h22⟩,?_⟩⟩
    refine comp_tup (K:=K) (a:=ts) (xs:=bs.map V.ref) (fun k zs G3=>Same G2 G3/\zs=(((ties.take k).filter (Flw.two (nmAt r))).map fun x=>x.2.2).map V.int) (by rw[List.length_map,sizeLine_eq];lia) ⟨Same.refl _,rfl⟩ (fun k zs G3 _ z=>SqT.of (z.1 _ _ h22)) ?_ ?_
    ·rintro k x zs G3 hx3 ⟨s3',rfl⟩
     obtain⟨kl,e⟩:=List.getElem?_eq_some_iff.mp hx3
     rw[List.length_map]at kl
     rw[List.getElem_map]at e
     subst e
     have kt:k<ties.length:=by lia
     have hx:=s3' _ _ (Paired.at h32 k kl kt)
     obtain⟨o1,o2,o3,o4⟩:=ok _ (List.getElem_mem kt)
     rw[List.take_succ_eq_append_getElem kt,List.filter_append,List.map_append,List.map_append]
     refine⟨bs[k],_,rfl,SqT.of hx,rfl,_,_,rfl,_,_,rfl,_,_,rfl,rfl,⟨rfl,trivial⟩,?_⟩
     refine⟨_,rfl,_,rfl,as[i],_,_,_,rfl,rfl,s3' _ _ ga,(nmAt_get o1 (by lia)).1,_,rfl,_,rfl,as[i],_,_,_,rfl,rfl,s3' _ _ ga,(nmAt_get (by lia) (by lia)).1,rfl,_,rfl,ite2 (fun hc=>?_) (fun hc=>?_)⟩
     ·have ne:Flw.two (nmAt r) ties[k]=true:=decide_eq_true (fun z=>by rw[z]at hc;simp at hc)
      refine⟨_,rfl,s3',?_⟩
      rw[List.filter_cons_of_pos ne]
      rfl
     ·have ne:¬ Flw.two (nmAt r) ties[k]=true:=fun z=>by
       have:=of_decide_eq_true z
       exact this (by simpa using hc)
      refine⟨s3',?_⟩
      rw[List.filter_cons_of_neg ne,List.filter_nil,List.map_nil,List.map_nil,List.append_nil]
    ·rintro zs G3 zl ⟨s3',rfl⟩ E hE
     have tk:ties.take (bs.map V.ref).length=ties:=by rw[List.length_map,h3l,List.take_length]
     rw[tk]
     refine⟨E,_,rfl,upd_same,s2'.trans (s3'.trans (Same.new hE)),?_⟩
     rfl
   ·rintro ys G2 yl ⟨s2',rfl⟩ D2 hD2
    rw[List.length_map,al,List.take_length]
    obtain⟨h0,hh0⟩:∃ h,Shk.RowF n ps h:=⟨_,((rows_start p1 pr).sound _ (List.mem_singleton.mpr rfl)).2⟩
    obtain⟨r0,hr0,_⟩:=R.all h0 hh0
    refine⟨D2,_,rfl,upd_same,(fun z=>?_),fun m hm hl=>fin m _ (R.least ok full hm hl) (sH.trans (s2'.trans (Same.new hD2)))⟩
    have:=List.map_eq_nil_iff.mp z
    rw[this]at hr0
    cases hr0
end
open PySem L2 PyProof.Rows
inductive Rch(ties:List Tie):Int->Int->Prop
 |refl (a:Int):Rch ties a a
 |up {a b c w:Int}:(a,b,w)∈ties->Rch ties b c->Rch ties a c
 |dn {a b c w:Int}:(a,b,w)∈ties->Rch ties a c->Rch ties b c
theorem Rch.trans{ties:List Tie}{a b c:Int}(h:Rch ties a b):Rch ties b c->Rch ties a c:=by
 induction h with
 |refl=>exact id
 |up m _ ih=>exact fun z=>.up m (ih z)
 |dn m _ ih=>exact fun z=>.dn m (ih z)
theorem Rch.symm{ties:List Tie}{a b:Int}(h:Rch ties a b):Rch ties b a:=by
 induction h with
 |refl=>exact .refl _
 |up m _ ih=>exact ih.trans (.dn m (.refl _))
 |dn m _ ih=>exact ih.trans (.up m (.refl _))
theorem Rch.inv{ties:List Tie}{α:Type}{f:Int->α}(h:∀ a b w,(a,b,w)∈ties->f a=f b){a b:Int}(r:Rch ties a b):f a=f b:=by
 induction r with
 |refl=>rfl
 |up m _ ih=>exact(h _ _ _ m).trans ih
 |dn m _ ih=>exact(h _ _ _ m).symm.trans ih
theorem Rch.range{ties:List Tie}{n:Nat}(ok:∀ x∈ties,TieOk n x){a b:Int}(r:Rch ties a b):0<=a->a<n->0<=b/\b<n:=by
 induction r with
 |refl=>exact fun h1 h2=>⟨h1,h2⟩
 | @up a b c w m _ ih =>
  obtain⟨o1,o2,o3,_⟩:=ok _ m
  have o1:0<=a:=o1
  have o2:a<b:=o2
  intro _ _
  exact ih (by lia) o3
 | @dn a b c w m _ ih =>
  obtain⟨o1,o2,o3,_⟩:=ok _ m
  have o2:a<b:=o2
  have o3:b <(n:Int):=o3
  intro _ _
  exact ih o1 (by lia)
noncomputable def hAt(hs:List Int)(i:Int):Int:=hs.getD i.toNat 0
theorem hAt_nat{hs:List Int}{i:Nat}(h:i<hs.length):hAt hs (i:Int)=hs[i]:=by
 unfold hAt
 rw[Int.toNat_natCast,List.getD_eq_getElem?_getD,List.getElem?_eq_getElem h]
 rfl
structure IsHeads(n:Nat)(ties:List Tie)(hs:List Int):Prop where
 len:hs.length=n
 rch:∀ i:Int,0<=i->i<n->Rch ties i (hAt hs i)
 least:∀ i:Int,0<=i->i<n->∀ j,Rch ties i j->hAt hs i<=j
theorem IsHeads.uniq{n:Nat}{ties:List Tie}{hs gs:List Int}(h:IsHeads n ties hs)(g:IsHeads n ties gs):hs=gs:=by
 refine List.ext_getElem (h.len.trans g.len.symm) fun i h1 h2=>?_
 have e1:=hAt_nat h1
 have e2:=hAt_nat h2
 have hn:=h.len
 have a:=h.least i (by lia) (by lia) _ (g.rch i (by lia) (by lia))
 have b:=g.least i (by lia) (by lia) _ (h.rch i (by lia) (by lia))
 lia
noncomputable def besideOf(ties:List Tie)(i:Int):List (Int×Int):=ties.flatMap fun x=>if x.1=i then [(x.2.1,x.2.2)]else if x.2.1=i then [(x.1,x.2.2)]else []
theorem besideOf_snoc{ties:List Tie}{x:Tie}{i:Int}:besideOf (ties++[x]) i=besideOf ties i++if x.1=i then [(x.2.1,x.2.2)]else if x.2.1=i then [(x.1,x.2.2)]else []:=by
 unfold besideOf
 rw[List.flatMap_append,List.flatMap_cons,List.flatMap_nil,List.append_nil]
theorem mem_beside{ties:List Tie}{n:Nat}(ok:∀ x∈ties,TieOk n x){i f w:Int}:(f,w)∈besideOf ties i↔(i,f,w)∈ties\/(f,i,w)∈ties:=by
 unfold besideOf
 rw[List.mem_flatMap]
 refine⟨fun⟨x,hx,h⟩=>?_,fun h=>?_⟩
 ·obtain⟨a,b,c⟩:=x
  by_cases e:a=i
  ·rw[if_pos e]at h
   have:=List.mem_singleton.mp h
   injection this with e1 e2
   left
   rw[<- e,e1,e2]
   exact hx
  ·rw[if_neg e]at h
   by_cases e':b=i
   ·rw[if_pos e']at h
    have:=List.mem_singleton.mp h
    injection this with e1 e2
    right
    rw[<- e',e1,e2]
    exact hx
   ·rw[if_neg e']at h
    cases h
 ·rcases h with h | h
  ·exact⟨_,h,by rw[if_pos rfl];exact List.mem_singleton.mpr rfl⟩
  ·have:=(ok _ h).2.1
   have ne:f≠i:=by
    intro z
    rw[z]at this
    exact absurd this (Int.lt_irrefl _)
   exact⟨_,h,by rw[if_neg ne,if_pos rfl];exact List.mem_singleton.mpr rfl⟩
theorem beside_len:∀ (ties:List Tie) (i:Int),(besideOf ties i).length<=ties.length
 |[],_=>Nat.le_refl _
 |x :: r,i=>by
  unfold besideOf
  rw[List.flatMap_cons,List.length_append]
  have:=beside_len r i
  unfold besideOf at this
  have h2:(if x.1=i then [(x.2.1,x.2.2)]else if x.2.1=i then [(x.1,x.2.2)]else []).length<=1:=by
   split
   ·exact Nat.le_refl _
   ·split
    ·exact Nat.le_refl _
    ·exact Nat.zero_le _
  simp only[List.length_cons]
  lia
noncomputable def oV:Option Int->V
 |none=>.non
 |some i=>.int i
noncomputable def oAt(hv:List (Option Int))(i:Int):Option Int:=(hv[i.toNat]?).join
theorem oAt_set{hv:List (Option Int)}{j:Nat}{x:Option Int}(hj:j<hv.length)(i:Int)(h0:0<=i):oAt (hv.set j x) i=if i=(j:Int)then x else oAt hv i:=by
 unfold oAt
 by_cases e:i=(j:Int)
 ·subst e
  rw[if_pos rfl,Int.toNat_natCast,List.getElem?_set_self hj]
  rfl
 ·rw[if_neg e,List.getElem?_set_ne (by lia)]
theorem oAt_get{hv:List (Option Int)}{j:Nat}(hj:j<hv.length):hv[j]?=some (oAt hv j):=by
 unfold oAt
 rw[Int.toNat_natCast,List.getElem?_eq_getElem hj]
 rfl
theorem nones_set:∀ {hv:List (Option Int)}{j:Nat}{x:Int},hv[j]?=some none->(hv.set j (some x)).countP (·.isNone)+1=hv.countP (·.isNone)
 |[],_,_,h=>by simp at h
 |a :: r,0,x,h=>by
  have e:a=none:=by simpa using h
  subst e
  simp
 |a :: r,j+1,x,h=>by
  have ih:=nones_set (hv:=r) (j:=j) (x:=x) (by simpa using h)
  rw[List.set_cons_succ,List.countP_cons,List.countP_cons]
  lia
noncomputable def Clo(ties:List Tie)(hv:List (Option Int)):Prop:=∀ a b w,(a,b,w)∈ties->oAt hv a=oAt hv b
structure SI(n:Nat)(ties:List Tie)(h0 hv:List (Option Int))(head:Int)(ws:List Int):Prop where
 len:hv.length=n
 old:∀ v:Int,0<=v->v<n->oAt h0 v≠none->oAt hv v=oAt h0 v
 new:∀ v:Int,0<=v->v<n->oAt h0 v=none->oAt hv v=none\/(oAt hv v=some head/\Rch ties head v)
 hd:oAt hv head=some head
 wait:∀ w∈ws,0<=w/\w<n/\oAt h0 w=none/\oAt hv w=some head
noncomputable def Done(ties:List Tie)(hv:List (Option Int))(v:Int):Prop:=∀ x∈besideOf ties v,oAt hv x.1≠none
structure Sprd(n:Nat)(ties:List Tie)(h0 hv:List (Option Int))(head:Int):Prop where
 si:SI n ties h0 hv head []
 clo:Clo ties hv
theorem SI.fin{n:Nat}{ties:List Tie}{h0 hv:List (Option Int)}{head:Int}(S:SI n ties h0 hv head [])(ok:∀ x∈ties,TieOk n x)(cl:Clo ties h0)(dn:∀ v:Int,0<=v->v<n->oAt h0 v=none->oAt hv v≠none->Done ties hv v):Sprd n ties h0 hv head:=by
 refine⟨S,fun a b w m=>?_⟩
 obtain⟨o1,o2,o3,_⟩:=ok _ m
 have o2:a<b:=o2
 have o3:b <(n:Int):=o3
 have o1:0<=a:=o1
 have c:=cl a b w m
 by_cases z:oAt h0 a=none
 ·have zb:oAt h0 b=none:=by rw[<- c];exact z
  rcases S.new a o1 (by lia) z with p |⟨p,_⟩
  ·rcases S.new b (by lia) o3 zb with q |⟨q,_⟩
   ·rw[p,q]
   ·exact absurd p (dn b (by lia) o3 zb (by rw[q];exact fun z=>nomatch z) (a,w) ((mem_beside ok).mpr (.inr m)))
  ·rcases S.new b (by lia) o3 zb with q |⟨q,_⟩
   ·exact absurd q (dn a o1 (by lia) z (by rw[p];exact fun z=>nomatch z) (b,w) ((mem_beside ok).mpr (.inl m)))
   ·rw[p,q]
 ·rw[S.old a o1 (by lia) z,S.old b (by lia) o3 (by rw[<- c];exact z),c]
theorem SI.put{n:Nat}{ties:List Tie}{h0 hv:List (Option Int)}{head:Int}{ws:List Int}{j:Nat}(S:SI n ties h0 hv head ws)(hj:j<n)(z:oAt hv j=none)(r:Rch ties head j):SI n ties h0 (hv.set j (some head)) head (ws++[(j:Int)]):=by
 have hl:j<hv.length:=by rw[S.len];exact hj
 have z0:oAt h0 j=none:=by
  cases e:oAt h0 j with
  |none=>rfl
  |some y =>
   have:=S.old j (by lia) (by lia) (by rw[e];exact fun z=>nomatch z)
   rw[z,e]at this
   cases this
 refine⟨by rw[List.length_set];exact S.len,fun v v0 v1 hv'=>?_,fun v v0 v1 hv'=>?_,?_,fun w hw=>?_⟩
 ·rw[oAt_set hl v v0]
  split
  ·rename_i e
   rw[e]at hv'
   exact absurd z0 hv'
  ·exact S.old v v0 v1 hv'
 ·rw[oAt_set hl v v0]
  split
  ·rename_i e
   subst e
   exact .inr ⟨rfl,r⟩
  ·exact S.new v v0 v1 hv'
 ·by_cases h0':0<=head
  ·rw[oAt_set hl head h0']
   split
   ·rfl
   ·exact S.hd
  ·have hd:=S.hd
   have t:head.toNat=0:=by lia
   unfold oAt at hd ⊢
   rw[t]at hd ⊢
   by_cases j0:j=0
   ·subst j0
    rw[List.getElem?_set_self hl]
    rfl
   ·rw[List.getElem?_set_ne j0]
    exact hd
 ·rcases List.mem_append.mp hw with m | m
  ·obtain⟨a,b,c,d⟩:=S.wait w m
   refine⟨a,b,c,?_⟩
   rw[oAt_set hl w a]
   split
   ·rfl
   ·exact d
  ·have e:=List.mem_singleton.mp m
   subst e
   exact⟨by lia,by lia,z0,by rw[oAt_set hl _ (by lia),if_pos rfl]⟩
theorem Done.mono{ties:List Tie}{hv:List (Option Int)}{n:Nat}{head:Int}{j:Nat}(ok:∀ x∈ties,TieOk n x)(hj:j<hv.length){v:Int}(d:Done ties hv v):Done ties (hv.set j (some head)) v:=fun x hx=>by
 have x0:0<=x.1:=by
  obtain⟨f,w⟩:=x
  rcases(mem_beside ok).mp hx with m | m
  ·obtain⟨o1,o2,_⟩:=ok _ m
   have o1:0<=v:=o1
   have o2:v<f:=o2
   show 0<=f
   lia
  ·exact(ok _ m).1
 rw[oAt_set hj _ x0]
 split
 ·exact fun z=>nomatch z
 ·exact d x hx
structure HI(n:Nat)(ties:List Tie)(hv:List (Option Int))(k:Nat):Prop where
 len:hv.length=n
 clo:Clo ties hv
 rch:∀ v h:Int,0<=v->v<n->oAt hv v=some h->Rch ties v h/\∀ j,Rch ties v j->h<=j
 all:∀ v:Int,0<=v->v<k->oAt hv v≠none
theorem HI.skip{n:Nat}{ties:List Tie}{hv:List (Option Int)}{k:Nat}(S:HI n ties hv k)(h:oAt hv k≠none):HI n ties hv (k+1) :=
 ⟨S.len,S.clo,S.rch,fun v v0 v1=>by
  by_cases e:v=(k:Int)
  ·rw[e];exact h
  ·exact S.all v v0 (by lia)⟩
theorem HI.next{n:Nat}{ties:List Tie}{h0 hv:List (Option Int)}{k:Nat}(ok:∀ x∈ties,TieOk n x)(S:HI n ties h0 k)(kn:k<n)(D:Sprd n ties h0 hv k):HI n ties hv (k+1):=by
 refine⟨D.si.len,D.clo,fun v h v0 v1 e=>?_,fun v v0 v1=>?_⟩
 ·by_cases z:oAt h0 v=none
  ·rcases D.si.new v v0 v1 z with q |⟨q,r⟩
   ·rw[q]at e
    cases e
   ·rw[q]at e
    injection e with e
    subst e
    refine⟨r.symm,fun j hj=>?_⟩
    obtain⟨j0,j1⟩:=hj.range ok v0 v1
    have c:oAt h0 v=oAt h0 j:=Rch.inv S.clo hj
    rw[z]at c
    by_cases lt:j <(k:Int)
    ·exact absurd c.symm (S.all j j0 lt)
    ·lia
  ·rw[D.si.old v v0 v1 z]at e
   exact S.rch v h v0 v1 e
 ·by_cases e:v=(k:Int)
  ·rw[e,D.si.hd]
   exact fun z=>nomatch z
  ·have:=S.all v v0 (by lia)
   rw[D.si.old v v0 (by lia) this]
   exact this
theorem HI.fin{n:Nat}{ties:List Tie}{hv:List (Option Int)}(S:HI n ties hv n):∃ hs:List Int,hv=hs.map some/\IsHeads n ties hs:=by
 have all:∀ x∈hv,x≠none:=fun x hx=>by
  obtain⟨i,hi,e⟩:=List.getElem_of_mem hx
  have:=S.all i (by lia) (by have:=S.len;lia)
  have g:=oAt_get hi
  rw[List.getElem?_eq_getElem hi]at g
  injection g with g
  rw[<- e,g]
  exact this
 have ex:hv=(hv.map (·.getD 0)).map some:=by
  rw[List.map_map]
  have:hv.map (some ∘ fun x=>x.getD 0)=hv.map id:=List.map_congr_left fun x hx=>by
   cases e:x with
   |none=>exact absurd e (all x hx)
   |some y=>rfl
  rw[this,List.map_id]
 have at':∀ i:Int,0<=i->i<n->oAt hv i=some (hAt (hv.map (·.getD 0)) i):=fun i i0 i1=>by
  obtain⟨j,rfl⟩:∃ j:Nat,i=(j:Int):=⟨i.toNat,by lia⟩
  have jl:j <(hv.map (·.getD 0)).length:=by rw[List.length_map,S.len];lia
  rw[hAt_nat jl]
  have e2:(hv.map (·.getD 0))[j]=(oAt hv j).getD 0:=by
   rw[List.getElem_map]
   have jl2:j<hv.length:=by rw[S.len];lia
   have g:=oAt_get jl2
   rw[List.getElem?_eq_getElem jl2]at g
   injection g with g
   rw[g]
  rw[e2]
  cases e:oAt hv j with
  |none=>exact absurd e (S.all j (by omega) (by omega))
  |some y=>rfl
 exact⟨_,ex,by rw[List.length_map];exact S.len,fun i i0 i1=>(S.rch i _ i0 i1 (at' i i0 i1)).1,fun i i0 i1=>(S.rch i _ i0 i1 (at' i i0 i1)).2⟩
open PySem L2 PyProof.Rows
noncomputable def pairOf(x:Tie):List Int:=[x.1,x.2.1]
theorem sl_tupK{X:Cx}(K:PySem.W.Frag)(e:X.K=K):SlR X (rSlT K):=e▸sl_tup
noncomputable def BesAt(H:Hp)(as:List Addr)(ties:List Tie):Prop:=∀ (i:Nat) (h:i<as.length),∃ cs:List Addr,H as[i]=some (.lst (cs.map V.ref))/\Paired (fun c (x:Int×Int)=>H c=some (.tup [.int x.1,.int x.2])) cs (besideOf ties i)
theorem BesAt.same{H H':Hp}{as:List Addr}{ties:List Tie}(B:BesAt H as ties)(s:Same H H'):BesAt H' as ties:=fun i h=>by
 obtain⟨cs,e,p⟩:=B i h
 exact⟨cs,s _ _ e,Paired.mapP p fun c x z=>s _ _ z⟩
theorem BesAt.kept{H H':Hp}{as:List Addr}{ties:List Tie}{p:Addr}{hv:List (Option Int)}(B:BesAt H as ties)(k:Kept p H H')(hp:H p=some (.lst (hv.map oV)))(na:p∉as):BesAt H' as ties:=fun i h=>by
 obtain⟨cs,e,q⟩:=B i h
 exact⟨cs,k _ _ (fun z=>na (z▸List.getElem_mem h)) e,Paired.mapP q fun c x z=>k _ _ (ne_of z hp (by intro z;cases z)) z⟩
theorem BesAt.put{H:Hp}{as:List Addr}{g:Int->List (Int×Int)}{j:Nat}{y:Int×Int}{tp:Addr}{cs0:List Addr}(nd:as.Nodup)(hj:j<as.length)
  (B:∀ (i:Nat) (h:i<as.length),∃ cs:List Addr,H as[i]=some (.lst (cs.map V.ref))/\Paired (fun c (x:Int×Int)=>H c=some (.tup [.int x.1,.int x.2])) cs (g i)) (e0:H as[j]=some (.lst (cs0.map V.ref))) (ht:H tp=some (.tup [.int y.1,.int y.2])) :
  ∀ (i:Nat) (h:i<as.length),∃ cs:List Addr,(upd H as[j] (.lst (cs0.map V.ref++[.ref tp]))) as[i]=some (.lst (cs.map V.ref))/\Paired (fun c (x:Int×Int)=>(upd H as[j] (.lst (cs0.map V.ref++[.ref tp]))) c=some (.tup [.int x.1,.int x.2])) cs (g i++if(i:Int)=j then [y]else []):=fun i h=>by
 obtain⟨cs,e,p⟩:=B i h
 have p2:Paired (fun c (x:Int×Int)=>(upd H as[j] (.lst (cs0.map V.ref++[.ref tp]))) c=some (.tup [.int x.1,.int x.2])) cs (g i):=Paired.mapP p fun c x z=>by rw[upd_ne (ne_of z e0 (by intro z;cases z))];exact z
 by_cases ij:i=j
 ·subst ij
  rw[e]at e0
  have ec:cs0=cs:=by
   injection e0 with e0
   injection e0 with e0
   have:=congrArg (List.map (fun v=>match v with | V.ref a=>a | _=>0)) e0
   rw[List.map_map,List.map_map]at this
   have idl:∀ l:List Addr,l.map ((fun v=>match v with | V.ref a=>a | _=>0) ∘ V.ref)=l:=fun l=>by
    induction l with
    |nil=>rfl
    |cons a r ih=>rw[List.map_cons,ih];rfl
   rw[idl,idl]at this
   exact this.symm
  subst ec
  refine⟨cs0++[tp],by rw[upd_same,List.map_append];rfl,?_⟩
  rw[if_pos rfl]
  exact Paired.snoc p2 (by rw[upd_ne (ne_of ht e (by intro z;cases z))];exact ht)
 ·have ne:as[i]≠as[j]:=fun z=>ij ((List.getElem_inj nd).mp z)
  refine⟨cs,by rw[upd_ne ne];exact e,?_⟩
  rw[if_neg (by lia),List.append_nil]
  exact p2
inductive spBesI(vs:List V)(H:Hp)(Q:VK):Prop where
 |mk (t:Addr) (n:Nat) (ties:List Tie) (h1:vs=[.ref t]) (h2:WebAt H t n ties) (h3:(∀ x∈ties,TieOk n x)) (h4:n<=1000) (h5:∀ (b:Addr) (as:List Addr) (H':Hp),H' b=some (.lst (as.map V.ref))->as.length=n->BesAt H' as ties->Same H H'->Q (.ref b) H')
noncomputable def spBes:Sp:=fun vs H Q _=>spBesI vs H Q
section
variable{P:Program}{w:World}{K:PySem.W.Frag}{mg:Str->Option Value}{base:Heap}
noncomputable abbrev nBes:List Str:=["web","many","ties","beside","a","b","weight"]
theorem scBes:FnScope nBes ["web"] (defScope sBesideEach):=⟨rfl,rfl,rfl,by decide +kernel,rfl,by decide +kernel,by decide +kernel⟩
theorem csBes:CompScope ["place"] [none] nBes (defScope sBesideEach) (scO [(".0",.local),("place",.local)]):=⟨rfl,by decide +kernel,by decide +kernel,by decide +kernel,rfl,capB_ok (by decide +kernel)⟩
theorem ndBes:(["place"]:List Str).Nodup:=by decide +kernel
theorem ok_bes{f:Addr}{fd:FuncData}(F:Fun K "beside_each" "beside_each" sBesideEach f fd)(T:Txt mg):FnOk P w K mg base CX0 1 f fd ["web"] spBes:=by
 refine F.ok scBes (fun vs H Q E h=>?_) (fun cdv A outer s H vs Q E hr h=>?_)
 ·obtain⟨t,n,ties,rfl,_⟩:=h
  rfl
 ·obtain⟨t,n,ties,rfl,W,ok,nb,q⟩:=h
  obtain⟨⟨ts,bs,h1,h2,h3⟩,len⟩:=id W
  have h3l:bs.length=ties.length:=h3.length
  refine⟨_,pss_cons (ps_asg (pv 0) (pg_tup (n:=2) rfl (pgs_cons (pg_name (i:=1) scBes.nd rfl (Or.inl rfl)) (pgs_cons (pg_name (i:=2) scBes.nd rfl (Or.inl rfl)) pgs_nil))))
   (pss_cons (ps_comp (i:=3) scBes.nd rfl (Or.inl rfl) rfl csBes (pi_range1 rfl T.range (@pa_nam _ _ _ _ _ _ (pv 1) pa_nil)) (fun C s H fp=>pg_name (i:=0) ndBes rfl (Or.inl rfl)) (fun C s H fp=>pf_nil) (fun C s H fp=>@pe_lst _ _ _ _ pa_nil))
   (pss_cons (ps_for PassesOwn.never rfl (pi_tup (pv 2)) (pg_tup (n:=3) rfl (pgs_cons (pg_name (i:=4) scBes.nd rfl (Or.inl rfl)) (pgs_cons (pg_name (i:=5) scBes.nd rfl (Or.inl rfl)) (pgs_cons (pg_name (i:=6) scBes.nd rfl (Or.inl rfl)) pgs_nil))))
    (pss_cons (ps_expr (pe_bm PySem.F.plainAttrs_list PySem.F.slot_list_append PySem.F.type_list_append mt_append (pe_ix ix_list (pv 3) (pv 4) (fun _ _=>rfl)) (@pa_tup _ _ _ _ _ _ _ (@pe_tup _ _ _ _ _ (@pa_nam _ _ _ _ _ _ (pv 5) (@pa_nam _ _ _ _ _ _ (pv 6) pa_nil))) pa_nil)))
    (pss_one (ps_expr (pe_bm PySem.F.plainAttrs_list PySem.F.slot_list_append PySem.F.type_list_append mt_append (pe_ix ix_list (pv 3) (pv 5) (fun _ _=>rfl)) (@pa_tup _ _ _ _ _ _ _ (@pe_tup _ _ _ _ _ (@pa_nam _ _ _ _ _ _ (pv 4) (@pa_nam _ _ _ _ _ _ (pv 6) pa_nil))) pa_nil))))))
   (pss_one (ps_ret (pv 3))))),?_⟩
  refine⟨_,rfl,t,_,rfl,SqT.of h1,rfl,_,_,rfl,_,_,rfl,rfl,?_⟩
  refine⟨_,rfl,_,rfl,by lia,by lia,?_⟩
  rw[show((n:Int)).toNat=n by lia]
  refine comp_range (lo:=0) (n:=n) (fun i ys G=>Same H G/\∃ as:List Addr,ys=as.map V.ref/\as.length=i/\as.Nodup/\∀ a∈as,H a=none/\G a=some (.lst [])) (by rw[sizeLine_eq];lia) ⟨Same.refl _,[],rfl,rfl,List.nodup_nil,fun _ h=>nomatch h⟩ ?_ ?_
  ·rintro i ys G hi ⟨sm,as,rfl,al,nd,ha⟩
   refine⟨trivial,tTru_if ⟨(by show 0<=sizeLine;decide),fun l hl=>⟨sm.trans (Same.new hl),as++[l],by rw[List.map_append];rfl,by rw[List.length_append,al];rfl,?_,fun a m=>?_⟩⟩⟩
   ·rw[List.nodup_append]
    refine⟨nd,by simp,fun x hx y hy z=>?_⟩
    rw[List.mem_singleton.mp hy]at z
    have:=(ha x hx).2
    rw[z,hl]at this
    cases this
   ·rcases List.mem_append.mp m with m | m
    ·exact⟨(ha a m).1,(Same.new hl) _ _ (ha a m).2⟩
    ·rw[List.mem_singleton.mp m]
     exact⟨sm.free hl,upd_same⟩
  ·rintro ys G yl ⟨sm,as,rfl,al,nd,ha⟩ D hD
   have sD:=Same.new (o:=.lst (as.map V.ref)) hD
   have hD0:H D=none:=sm.free hD
   have smD:=sm.trans sD
   refine⟨_,rfl,ts,rfl,⟨_,SqT.of (smD _ _ h2)⟩,?_⟩
   refine for_tup (K:=K) (a:=ts) (xs:=bs.map V.ref) (fun i σ G2=>∃ v4 v5 v6,σ=[some (.ref t),some (.int n),some (.ref ts),some (.ref D),v4,v5,v6]/\Same H G2/\G2 D=some (.lst (as.map V.ref))/\BesAt G2 as (ties.take i)) ⟨none,none,none,rfl,smD,upd_same,fun i h=>⟨[],sD _ _ (ha _ (List.getElem_mem h)).2,.nil⟩⟩ (fun i σ G2 _ z=>by obtain⟨v4,v5,v6,_,s2,_⟩:=z;exact SqT.of (s2 _ _ h2)) ?_ ?_
   ·rintro i x σ G2 hx ⟨v4,v5,v6,rfl,s2,gD,B⟩
    obtain⟨il,e⟩:=List.getElem?_eq_some_iff.mp hx
    rw[List.length_map]at il
    rw[List.getElem_map]at e
    subst e
    have it:i<ties.length:=by lia
    have hx:=s2 _ _ (Paired.at h3 i il it)
    obtain⟨o1,o2,o3,o4⟩:=ok _ (List.getElem_mem it)
    generalize ex:ties[i]=x at *
    obtain⟨a,b,c⟩:=x
    have o1:0<=a:=o1
    have o2:a<b:=o2
    have o3:b <(n:Int):=o3
    obtain⟨a,rfl⟩:∃ a':Nat,a=(a':Int):=⟨a.toNat,by lia⟩
    obtain⟨b,rfl⟩:∃ b':Nat,b=(b':Int):=⟨b.toNat,by lia⟩
    have aL:a<as.length:=by lia
    have bL:b<as.length:=by lia
    refine⟨bs[i],_,rfl,SqT.of hx,rfl,_,_,rfl,_,_,rfl,_,_,rfl,rfl,?_⟩
    obtain⟨ca,ea,pa⟩:=B a aL
    refine⟨_,rfl,_,rfl,D,_,_,_,rfl,rfl,SqL.of gD,atI_nat (v:=V.ref as[a]) (by rw[List.getElem?_map,List.getElem?_eq_getElem aL];rfl),.inl ⟨rfl,_,SqL.of ea⟩,_,rfl,_,rfl,(by show 2<=sizeLine;decide),fun tp htp=>?_⟩
    have sT:=Same.new (o:=.tup [.int (b:Int),.int c]) htp
    have lca:(ca.map V.ref).length<sizeLine:=by
     have l1:=pa.length
     have l2:=beside_len (ties.take i) a
     rw[List.length_take]at l2
     rw[List.length_map,sizeLine_eq]
     lia
    refine⟨as[a],_,_,rfl,rfl,sT _ _ ea,lca,?_⟩
    have B1:=BesAt.put (g:=fun i'=>besideOf (ties.take i) i') (y:=((b:Int),c)) nd aL (B.same sT) (sT _ _ ea) upd_same
    have na:∀ (u:Addr) (o:HO),H u=some o->u≠as[a]:=fun u o e z=>by rw[z,(ha _ (List.getElem_mem aL)).1]at e;cases e
    have nb':∀ (u:Addr) (o:HO),H u=some o->u≠as[b]:=fun u o e z=>by rw[z,(ha _ (List.getElem_mem bL)).1]at e;cases e
    have nD:∀ (j:Nat) (h:j<as.length),D≠as[j]:=fun j h z=>by
     have:=(ha _ (List.getElem_mem h)).2
     rw[<- z,hD]at this
     cases this
    have gD1:(upd (upd G2 tp (.tup [.int (b:Int),.int c])) as[a] (.lst (ca.map V.ref++[.ref tp]))) D=some (.lst (as.map V.ref)):=by rw[upd_ne (nD a aL)];exact sT _ _ gD
    have s3:Same H (upd (upd G2 tp (.tup [.int (b:Int),.int c])) as[a] (.lst (ca.map V.ref++[.ref tp]))):=fun u o e=>by rw[upd_ne (na u o e)];exact sT _ _ (s2 _ _ e)
    generalize (upd (upd G2 tp (.tup [.int (b:Int),.int c])) as[a] (.lst (ca.map V.ref++[.ref tp])))=G3 at B1 gD1 s3
    obtain⟨cb,eb,pb⟩:=B1 b bL
    refine⟨_,rfl,_,rfl,D,_,_,_,rfl,rfl,SqL.of gD1,atI_nat (v:=V.ref as[b]) (by rw[List.getElem?_map,List.getElem?_eq_getElem bL];rfl),.inl ⟨rfl,_,SqL.of eb⟩,_,rfl,_,rfl,(by show 2<=sizeLine;decide),fun tp2 htp2=>?_⟩
    have sT2:=Same.new (o:=.tup [.int (a:Int),.int c]) htp2
    have lcb:(cb.map V.ref).length<sizeLine:=by
     have l1:=pb.length
     rw[List.length_append]at l1
     have l2:=beside_len (ties.take i) b
     rw[List.length_take]at l2
     have l3:(if(b:Int)=(a:Int)then [((b:Int),c)]else []).length<=1:=by split <;> simp
     rw[List.length_map,sizeLine_eq]
     lia
    refine⟨as[b],_,_,rfl,rfl,sT2 _ _ eb,lcb,?_⟩
    have B1':∀ (i':Nat) (h:i'<as.length),∃ cs:List Addr,(upd G3 tp2 (.tup [.int (a:Int),.int c])) as[i']=some (.lst (cs.map V.ref))/\Paired (fun c' (x:Int×Int)=>(upd G3 tp2 (.tup [.int (a:Int),.int c])) c'=some (.tup [.int x.1,.int x.2])) cs ((fun i'':Int=>besideOf (ties.take i) i''++if i''=(a:Int)then [((b:Int),c)]else []) i'):=fun i' h=>by
     obtain⟨cs,e,p⟩:=B1 i' h
     exact⟨cs,sT2 _ _ e,Paired.mapP p fun c x z=>sT2 _ _ z⟩
    have B2:=BesAt.put (g:=fun i'':Int=>besideOf (ties.take i) i''++if i''=(a:Int)then [((b:Int),c)]else []) (y:=((a:Int),c)) nd bL B1' (sT2 _ _ eb) upd_same
    refine⟨_,_,_,rfl,fun u o e=>by rw[upd_ne (nb' u o e)];exact sT2 _ _ (s3 _ _ e),by rw[upd_ne (nD b bL)];exact sT2 _ _ gD1,fun i' h'=>?_⟩
    obtain⟨cs,e,p⟩:=B2 i' h'
    refine⟨cs,e,?_⟩
    have eq:besideOf (ties.take (i+1)) i'=(besideOf (ties.take i) i'++if(i':Int)=(a:Int)then [((b:Int),c)]else [])++if(i':Int)=(b:Int)then [((a:Int),c)]else []:=by
     rw[List.take_succ_eq_append_getElem it,besideOf_snoc,ex,List.append_assoc]
     congr 1
     show(if(a:Int)=(i':Int)then _ else if(b:Int)=(i':Int)then _ else _)=_
     by_cases e1:(i':Int)=(a:Int)
     ·rw[if_pos e1,if_pos e1.symm,if_neg (by lia)]
      rfl
     ·rw[if_neg e1,if_neg (fun z=>e1 z.symm)]
      by_cases e2:(i':Int)=(b:Int)
      ·rw[if_pos e2,if_pos e2.symm]
       rfl
      ·rw[if_neg e2,if_neg (fun z=>e2 z.symm)]
       rfl
    rw[eq]
    exact p
   ·rintro σ G2 ⟨v4,v5,v6,rfl,s2,gD,B⟩
    rw[List.length_map,h3l,List.take_length]at B
    exact⟨_,rfl,q D as G2 gD al B s2⟩
end
open PySem L2 PyProof.Rows
inductive spSprI(vs:List V)(H:Hp)(Q:VK):Prop where
 |mk (b p:Addr) (as:List Addr) (n k:Nat) (ties:List Tie) (h0:List (Option Int)) (h1:vs=[.ref b,.ref p,.int k]) (h2:H b=some (.lst (as.map V.ref))) (h3:as.length=n) (h4:BesAt H as ties) (h5:(∀ x∈ties,TieOk n x)) (h6:n<=1000) (h7:H p=some (.lst (h0.map oV))) (h8:h0.length=n) (h9:b≠p) (h10:p∉as) (h11:k<n) (h12:oAt h0 k=none) (h13:Clo ties h0) (h14:∀ (hv:List (Option Int)) (H':Hp),H' p=some (.lst (hv.map oV))->Sprd n ties h0 hv k->Kept p H H'->Q .non H')
noncomputable def spSpr:Sp:=fun vs H Q _=>spSprI vs H Q
theorem oV_get{hv:List (Option Int)}{j:Nat}(hj:j<hv.length):atI (hv.map oV) (j:Int)=some (oV (oAt hv j)):=atI_nat (by rw[List.getElem?_map,oAt_get hj];rfl)
theorem set_oV{hv:List (Option Int)}{j:Nat}{x:Int}:(hv.map oV).set j (.int x)=(hv.set j (some x)).map oV:=by rw[List.map_set];rfl
theorem nones_le(hv:List (Option Int)):hv.countP (·.isNone)<=hv.length:=List.countP_le_length
structure WlI(H:Hp)(p wl:Addr)(n k:Nat)(ties:List Tie)(h0 hv:List (Option Int))(ws:List Int)(G:Hp):Prop where
 hp:G p=some (.lst (hv.map oV))
 hw:G wl=some (.lst (ws.map V.int))
 si:SI n ties h0 hv k ws
 kp:Kept p H G
section
variable{P:Program}{w:World}{K:PySem.W.Frag}{mg:Str->Option Value}{base:Heap}
noncomputable abbrev nSpr:List Str:=["beside","heads","head","waiting","place","far","weight"]
theorem scSpr:FnScope nSpr ["beside","heads","head"] (defScope sSpread):=⟨rfl,rfl,rfl,by decide +kernel,rfl,by decide +kernel,by decide +kernel⟩
theorem ok_spr{f:Addr}{fd:FuncData}(F:Fun K "spread" "spread" sSpread f fd):FnOk P w K mg base CX0 1 f fd ["beside","heads","head"] spSpr:=by
 refine F.ok scSpr (fun vs H Q E h=>?_) (fun cdv A outer s H vs Q E hr h=>?_)
 ·obtain⟨b,p,as,n,k,ties,h0,rfl,_⟩:=h
  rfl
 ·obtain⟨b,p,as,n,k,ties,h0,rfl,hb,al,B,ok,nb,hp,l0,bp,pa,kn,kz,cl,q⟩:=h
  refine⟨_,pss_cons (ps_asg (pv 2) (pg_sub (pv 1) (pv 2) set_list))
   (pss_cons (ps_set (i:=3) scSpr.nd rfl (Or.inl rfl) (@pe_lst _ _ _ _ (@pa_nam _ _ _ _ _ _ (pv 2) pa_nil)))
   (pss_one (ps_while PassesOwn.never (pt_truth (pv 3) (fun _=>rfl))
    (pss_cons (ps_set (i:=4) scSpr.nd rfl (Or.inl rfl) (pe_bm0 PySem.F.plainAttrs_list PySem.F.slot_list_pop PySem.F.type_list_pop mt_pop (pv 3)))
    (pss_one (ps_for PassesOwn.never rfl (pi_list (pe_ix ix_list (pv 0) (pv 4) (fun _ _=>rfl))) (pg_tup (n:=2) rfl (pgs_cons (pg_name (i:=5) scSpr.nd rfl (Or.inl rfl)) (pgs_cons (pg_name (i:=6) scSpr.nd rfl (Or.inl rfl)) pgs_nil)))
     (pss_one (ps_if (pt_cmp (pc_isN (pe_ix ix_list (pv 1) (pv 5) (fun _ _=>rfl))))
      (pss_cons (ps_asg (pv 2) (pg_sub (pv 1) (pv 5) set_list))
      (pss_one (ps_expr (pe_bm PySem.F.plainAttrs_list PySem.F.slot_list_append PySem.F.type_list_append mt_append (pv 3) (@pa_nam _ _ _ _ _ _ (pv 5) pa_nil))))) pss_nil)))))))),?_⟩
  have kl:k<h0.length:=by lia
  refine⟨_,rfl,_,rfl,_,rfl,p,_,_,k,rfl,rfl,hp,by rw[List.length_map];exact ixN_nat kl,?_⟩
  rw[set_oV]
  refine⟨_,rfl,(by show 1<=sizeLine;decide),fun wl hwl=>?_⟩
  have wp:wl≠p:=fun z=>by rw[z,upd_same]at hwl;cases hwl
  have wl0:H wl=none:=by rw[upd_ne wp]at hwl;exact hwl
  have S0:SI n ties h0 (h0.set k (some (k:Int))) k [(k:Int)]:=by
   refine⟨by rw[List.length_set];exact l0,fun v v0 v1 z=>?_,fun v v0 v1 z=>?_,?_,fun x hx=>?_⟩
   ·rw[oAt_set kl v v0,if_neg (fun e=>z (by rw[e];exact kz))]
   ·rw[oAt_set kl v v0]
    split
    ·rename_i e
     exact .inr ⟨rfl,by rw[e];exact .refl _⟩
    ·exact .inl z
   ·rw[oAt_set kl _ (by lia),if_pos rfl]
   ·rw[List.mem_singleton.mp hx]
    exact⟨by lia,by lia,kz,by rw[oAt_set kl _ (by lia),if_pos rfl]⟩
  have c0:(h0.set k (some (k:Int))).countP (·.isNone)+1=h0.countP (·.isNone):=nones_set (by rw[oAt_get kl,kz])
  have c1:=nones_le h0
  refine⟨fun m σ G=>∃ hv ws v4 v5 v6,σ=[some (.ref b),some (.ref p),some (.int k),some (.ref wl),v4,v5,v6]/\m=2 * hv.countP (·.isNone)+ws.length/\m<=2 * n/\WlI H p wl n k ties h0 hv ws G/\∀ v:Int,0<=v->v<n->oAt h0 v=none->oAt hv v≠none->v∉ws->Done ties hv v,
   ⟨_,h0.set k (some (k:Int)),[(k:Int)],none,none,none,rfl,rfl,by simp;lia,⟨by rw[upd_ne (Ne.symm wp),upd_same],upd_same,S0,(Kept.at).put wl0⟩,fun v v0 v1 z z2 z3=>?_⟩,?_⟩
  ·exfalso
   rw[oAt_set kl v v0]at z2
   split at z2
   ·rename_i e
    exact z3 (by rw[e];exact List.mem_singleton.mpr rfl)
   ·exact z2 z
  clear S0 c0 c1 hwl
  rintro m σ G ⟨hv,ws,v4,v5,v6,rfl,em,mn,I,dn⟩
  refine⟨_,rfl,_,.inl ⟨_,SqL.of I.hw,rfl⟩,ite2 (fun hc=>?_) (fun hc=>?_)⟩
  ·have r0:ws≠[]:=fun z=>by rw[z]at hc;exact absurd hc (by decide)
   obtain⟨w1,pl,rfl⟩:∃ w1 pl,ws=w1++[pl]:=⟨ws.dropLast,ws.getLast r0,(List.dropLast_concat_getLast r0).symm⟩
   refine⟨fun σ' G'=>∃ m',m'<m/\∃ hv ws v4 v5 v6,σ'=[some (.ref b),some (.ref p),some (.int k),some (.ref wl),v4,v5,v6]/\m'=2 * hv.countP (·.isNone)+ws.length/\m'<=2 * n/\WlI H p wl n k ties h0 hv ws G'/\∀ v:Int,0<=v->v<n->oAt h0 v=none->oAt hv v≠none->v∉ws->Done ties hv v,fun σ' G' z=>z,?_⟩
   refine⟨_,rfl,.inl ⟨rfl,_,SqL.of I.hw⟩,wl,_,V.int pl,rfl,rfl,I.hw,by simp,?_⟩
   have edl:(List.map V.int (w1++[pl])).dropLast=w1.map V.int:=by rw[List.map_append];simp
   rw[edl]
   obtain⟨p0,p1,pz,pk⟩:=I.si.wait pl (List.mem_append_right _ (List.mem_singleton.mpr rfl))
   obtain⟨pl,rfl⟩:∃ j:Nat,pl=(j:Int):=⟨pl.toNat,by lia⟩
   have pL:pl<as.length:=by lia
   have rp:Rch ties k pl:=by
    rcases I.si.new pl p0 p1 pz with z | z
    ·rw[pk]at z;cases z
    ·exact z.2
   have I1:WlI H p wl n k ties h0 hv w1 (upd G wl (.lst (w1.map V.int))):=⟨by rw[upd_ne (Ne.symm wp)];exact I.hp,upd_same,⟨I.si.len,I.si.old,I.si.new,I.si.hd,fun x hx=>I.si.wait x (List.mem_append_left _ hx)⟩,I.kp.put wl0⟩
   have hbG:∀ {G':Hp},Kept p H G'->G' b=some (.lst (as.map V.ref)):=fun k'=>k' _ _ bp hb
   have BG:∀ {G':Hp},Kept p H G'->BesAt G' as ties:=fun k'=>B.kept k' hp pa
   obtain⟨cs,ec,pc⟩:=(BG I1.kp) pl pL
   have ecG:∀ {G':Hp},Kept p H G'->G' as[pl]=some (.lst (cs.map V.ref)):=fun k'=>by
    obtain⟨cs',e',_⟩:=B pl pL
    have apl:as[pl]≠p:=fun z=>pa (z▸List.getElem_mem pL)
    have e1:=I1.kp _ _ apl e'
    have e2:=k' _ _ apl e'
    rw[ec]at e1
    rw[e2,<- e1]
   have pcG:∀ {G':Hp},Kept p H G'->Paired (fun c (x:Int×Int)=>G' c=some (.tup [.int x.1,.int x.2])) cs (besideOf ties pl):=fun {G'} k'=>by
    obtain⟨cs',e',p'⟩:=(BG k') pl pL
    rw[ecG k']at e'
    have:cs=cs':=by
     injection e' with e'
     injection e' with e'
     exact List.map_inj_right (fun _ _ h=>by injection h) |>.mp e'
    rw[this]
    exact p'
   refine⟨_,rfl,_,rfl,b,_,_,_,rfl,rfl,SqL.of (hbG I1.kp),atI_nat (v:=V.ref as[pl]) (by rw[List.getElem?_map,List.getElem?_eq_getElem pL];rfl),as[pl],rfl,⟨_,SqL.of ec⟩,?_⟩
   refine for_list (K:=K) (a:=as[pl]) (xs:=cs.map V.ref) (fun j σ' G'=>∃ hv ws v5 v6,σ'=[some (.ref b),some (.ref p),some (.int k),some (.ref wl),some (.int pl),v5,v6]/\2 * hv.countP (·.isNone)+ws.length<m/\WlI H p wl n k ties h0 hv ws G' /\
    (∀ v:Int,0<=v->v<n->oAt h0 v=none->oAt hv v≠none->v∉ws->v≠pl->Done ties hv v)/\∀ x∈(besideOf ties pl).take j,oAt hv x.1≠none)
    ⟨hv,w1,v5,v6,rfl,by rw[em,List.length_append];show 2 * _+w1.length<2 * _+(w1.length+1);lia,I1,fun v v0 v1 z z2 z3 z4=>dn v v0 v1 z z2 (fun z5=>by rcases List.mem_append.mp z5 with y | y;exact z3 y;exact z4 (List.mem_singleton.mp y)),fun _ h=>by rw[List.take_zero]at h;cases h⟩
    (fun j σ' G' _ z=>by obtain⟨hv,ws,v5,v6,_,_,I',_⟩:=z;exact SqL.of (ecG I'.kp)) ?_ ?_
   ·clear I1 dn I em hc r0 edl v4 v5 v6 ec pc
    rintro j x σ' G' hx ⟨hv,ws,v5,v6,rfl,lt,I,dn,fs⟩
    obtain⟨il,e⟩:=List.getElem?_eq_some_iff.mp hx
    rw[List.length_map]at il
    rw[List.getElem_map]at e
    subst e
    have pcI:=pcG I.kp
    have jl:j <(besideOf ties pl).length:=by rw[<- pcI.length];exact il
    have hc:=Paired.at pcI j il jl
    have mem:(besideOf ties pl)[j]∈besideOf ties pl:=List.getElem_mem jl
    have tk:(besideOf ties pl).take (j+1)=(besideOf ties pl).take j++[(besideOf ties pl)[j]]:=List.take_succ_eq_append_getElem jl
    generalize (besideOf ties pl)[j]=y at hc mem tk
    obtain⟨fa,wt⟩:=y
    have fr:0<=fa/\fa<n/\Rch ties pl fa:=by
     rcases(mem_beside ok).mp mem with m1 | m1
     ·obtain⟨o1,o2,o3,_⟩:=ok _ m1
      have o1:0<=(pl:Int):=o1
      have o2:(pl:Int)<fa:=o2
      exact⟨by lia,o3,.up m1 (.refl _)⟩
     ·obtain⟨o1,o2,o3,_⟩:=ok _ m1
      have o2:fa <(pl:Int):=o2
      exact⟨o1,by lia,.dn m1 (.refl _)⟩
    obtain⟨f0,f1,fr⟩:=fr
    obtain⟨fa,rfl⟩:∃ j:Nat,fa=(j:Int):=⟨fa.toNat,by lia⟩
    have fL:fa<hv.length:=by rw[I.si.len];lia
    refine⟨cs[j],_,rfl,SqT.of hc,rfl,_,_,rfl,_,_,rfl,rfl,?_⟩
    refine⟨_,rfl,_,rfl,p,_,_,_,rfl,rfl,SqL.of I.hp,oV_get fL,_,rfl,ite2 (fun hz=>?_) (fun hz=>?_)⟩
    ·have z:oAt hv fa=none:=by
      cases e:oAt hv fa with
      |none=>rfl
      |some y=>rw[e]at hz;exact absurd hz (by simp[oV])
     refine⟨_,rfl,_,rfl,_,rfl,p,_,_,fa,rfl,rfl,I.hp,by rw[List.length_map];exact ixN_nat fL,?_⟩
     rw[set_oV]
     have hw1:(upd G' p (.lst ((hv.set fa (some (k:Int))).map oV))) wl=some (.lst (ws.map V.int)):=by rw[upd_ne wp];exact I.hw
     refine⟨_,rfl,.inl ⟨rfl,_,SqL.of hw1⟩,_,rfl,wl,_,_,rfl,rfl,hw1,by rw[List.length_map,sizeLine_eq];lia,?_⟩
     have ea:ws.map V.int++[V.int (fa:Int)]=(ws++[(fa:Int)]).map V.int:=by rw[List.map_append];rfl
     rw[ea]
     have cz:=nones_set (x:=(k:Int)) (show hv[fa]?=some none by rw[oAt_get fL,z])
     refine⟨hv.set fa (some (k:Int)),ws++[(fa:Int)],_,_,rfl,by rw[List.length_append];show 2 * _+(ws.length+1)<m;lia,⟨by rw[upd_ne (Ne.symm wp),upd_same],upd_same,I.si.put (by lia) z (rp.trans fr),(I.kp.trans Kept.at).put wl0⟩,fun v v0 v1 y1 y2 y3 y4=>?_,fun x hx=>?_⟩
     ·have y5:v∉ws:=fun h=>y3 (List.mem_append_left _ h)
      have y6:v≠(fa:Int):=fun h=>y3 (List.mem_append_right _ (List.mem_singleton.mpr h))
      rw[oAt_set fL v v0,if_neg y6]at y2
      exact(dn v v0 v1 y1 y2 y5 y4).mono ok fL
     ·rw[tk]at hx
      rcases List.mem_append.mp hx with hx | hx
      ·have d:∀ x∈(besideOf ties pl).take j,oAt (hv.set fa (some (k:Int))) x.1≠none:=fun x hx=>by
        have x0:0<=x.1:=by
         obtain⟨f,w⟩:=x
         rcases(mem_beside ok).mp (List.mem_of_mem_take hx)with m | m
         ·obtain⟨o1,o2,_⟩:=ok _ m
          have o1:0<=(pl:Int):=o1
          have o2:(pl:Int)<f:=o2
          show 0<=f
          lia
         ·exact(ok _ m).1
        rw[oAt_set fL _ x0]
        split
        ·exact fun z=>nomatch z
        ·exact fs x hx
       exact d x hx
      ·rw[List.mem_singleton.mp hx]
       show oAt _ (fa:Int)≠none
       rw[oAt_set fL _ f0,if_pos rfl]
       exact fun z=>nomatch z
    ·have z:oAt hv fa≠none:=fun e=>by rw[e]at hz;exact hz rfl
     refine⟨hv,ws,_,_,rfl,lt,I,dn,fun x hx=>?_⟩
     rw[tk]at hx
     rcases List.mem_append.mp hx with hx | hx
     ·exact fs x hx
     ·rw[List.mem_singleton.mp hx]
      exact z
   ·rintro σ' G' ⟨hv,ws,v5,v6,rfl,lt,I',dn',fs⟩
    refine⟨_,lt,hv,ws,_,_,_,rfl,rfl,by lia,I',fun v v0 v1 z z2 z3=>?_⟩
    by_cases e:v=pl
    ·subst e
     intro x hx
     exact fs x (by rw[List.length_map,(pcG I'.kp).length,List.take_length];exact hx)
    ·exact dn' v v0 v1 z z2 z3 e
  ·have r0:ws=[]:=by
    cases ws with
    |nil=>rfl
    |cons a r=>exact absurd rfl hc
   subst r0
   exact q hv G I.hp (I.si.fin ok cl fun v v0 v1 z z2=>dn v v0 v1 z z2 (fun h=>nomatch h)) I.kp
end
open PySem L2 PyProof.Rows
inductive spHdsI(vs:List V)(H:Hp)(Q:VK):Prop where
 |mk (t:Addr) (n:Nat) (ties:List Tie) (h1:vs=[.ref t]) (h2:WebAt H t n ties) (h3:(∀ x∈ties,TieOk n x)) (h4:n<=1000) (h5:∀ (p:Addr) (hs:List Int) (H':Hp),H p=none->H' p=some (.lst (hs.map V.int))->IsHeads n ties hs->Same H H'->Q (.ref p) H')
noncomputable def spHds:Sp:=fun vs H Q _=>spHdsI vs H Q
theorem rep_non:∀ n:Nat,(List.replicate n [V.non]).flatten=(List.replicate n (none:Option Int)).map oV
 | 0=>rfl
 |n+1=>by
  rw[List.replicate_succ,List.replicate_succ,List.flatten_cons,rep_non n]
  rfl
section
variable{P:Program}{w:World}{K:PySem.W.Frag}{mg:Str->Option Value}{base:Heap}
noncomputable abbrev nHds:List Str:=["web","beside","heads","place"]
theorem scHds:FnScope nHds ["web"] (defScope sHeadsOf):=⟨rfl,rfl,rfl,by decide +kernel,rfl,by decide +kernel,by decide +kernel⟩
theorem ok_hds{f g1 g2:Addr}{fd d1 d2:FuncData}(F:Fun K "heads_of" "heads_of" sHeadsOf f fd)(T:Txt mg)(GB:CalF P w K mg base 1 "beside_each" ["web"] spBes g1 d1)(GS:CalF P w K mg base 1 "spread" ["beside","heads","head"] spSpr g2 d2):FnOk P w K mg base CX0 2 f fd ["web"] spHds:=by
 refine F.ok scHds (fun vs H Q E h=>?_) (fun cdv A outer s H vs Q E hr h=>?_)
 ·obtain⟨t,n,ties,rfl,_⟩:=h
  rfl
 ·obtain⟨t,n,ties,rfl,W,ok,nb,q⟩:=h
  obtain⟨⟨ts,bs,h1,h2,h3⟩,len⟩:=id W
  refine⟨_,pss_cons (ps_set (i:=1) scHds.nd rfl (Or.inl rfl) (pe_call GB.ok hr rfl GB.mg GB.kp GB.bd .nil pass0 (@pa_nam _ _ _ _ _ _ (pv 0) pa_nil)))
   (pss_cons (ps_set (i:=2) scHds.nd rfl (Or.inl rfl) (pe_op op_rep (@pe_lst _ _ _ _ (@pa_cst _ _ _ _ _ _ _ pe_non pa_nil)) (@pe_ix _ _ _ _ _ _ _ ix_tup (pv 0) pe_int (fun _ _=>rfl))))
   (pss_cons (ps_for PassesOwn.never rfl (pi_range1 rfl T.range (@pa_sub _ _ _ _ _ _ _ (@pe_ix _ _ _ _ _ _ _ ix_tup (pv 0) pe_int (fun _ _=>rfl)) pa_nil)) (pg_name (i:=3) scHds.nd rfl (Or.inl rfl))
    (pss_one (ps_if (pt_cmp (pc_isN (pe_ix ix_list (pv 2) (pv 3) (fun _ _=>rfl))))
     (pss_one (ps_expr (pe_call GS.ok hr rfl GS.mg GS.kp GS.bd .nil pass0 (@pa_nam _ _ _ _ _ _ (pv 1) (@pa_nam _ _ _ _ _ _ (pv 2) (@pa_nam _ _ _ _ _ _ (pv 3) pa_nil)))))) pss_nil)))
   (pss_one (ps_ret (pv 2))))),?_⟩
  refine⟨_,rfl,t,n,ties,rfl,W,ok,nb,fun b as H1 hb al B s1=>?_⟩
  have h1':=s1 _ _ h1
  refine⟨(by show 1<=sizeLine;decide),fun l hl=>⟨_,rfl,t,_,_,_,rfl,rfl,SqT.of ((Same.new hl) _ _ h1'),rfl,l,_,_,rfl,rfl,upd_same,by lia,by lia,by show 1 * _<=_;rw[sizeLine_eq];lia,fun p hp=>?_⟩⟩
  rw[show((n:Int)).toNat=n by lia,rep_non]
  have sl:=Same.new (o:=.lst [V.non]) hl
  have sp:=Same.new (o:=.lst ((List.replicate n (none:Option Int)).map oV)) hp
  have s2:=s1.trans (sl.trans sp)
  have hp1:H1 p=none:=sl.free hp
  have hp0:H p=none:=s1.free hp1
  have bp:b≠p:=fun z=>by rw[z,hp1]at hb;cases hb
  have pa:p∉as:=fun m=>by
   obtain⟨i,hi,e⟩:=List.getElem_of_mem m
   obtain⟨cs,ec,_⟩:=B i hi
   rw[e,hp1]at ec
   cases ec
  have B2:=B.same (sl.trans sp)
  have hb2:=(sl.trans sp) _ _ hb
  have hpU:(upd (upd H1 l (.lst [V.non])) p (.lst ((List.replicate n (none:Option Int)).map oV))) p=_:=upd_same
  generalize (upd (upd H1 l (.lst [V.non])) p (.lst ((List.replicate n (none:Option Int)).map oV)))=H2 at s2 B2 hb2 hpU
  refine⟨_,rfl,t,_,_,_,rfl,rfl,SqT.of (s2 _ _ h1),rfl,_,rfl,by lia,by lia,?_⟩
  rw[show((n:Int)).toNat=n by lia]
  have at0:∀ v:Int,oAt (List.replicate n none) v=none:=fun v=>by
   unfold oAt
   rw[List.getElem?_replicate]
   split <;> rfl
  refine for_range (lo:=0) (n:=n) (fun i σ G=>∃ hv v3,σ=[some (.ref t),some (.ref b),some (.ref p),v3]/\G p=some (.lst (hv.map oV))/\HI n ties hv i/\Kept p H2 G) ⟨_,none,rfl,hpU,⟨List.length_replicate,fun a b w _=>(by rw[at0,at0]),fun v h _ _ e=>(by rw[at0]at e;cases e),fun v v0 v1=>absurd v1 (by lia)⟩,Kept.refl⟩ ?_ ?_
  ·rintro i σ G hi ⟨hv,v3,rfl,gp,S,kG⟩
   have il:i<hv.length:=by rw[S.len];exact hi
   rw[show(0:Int)+(i:Int)=(i:Int) by lia]
   refine⟨_,rfl,_,rfl,p,_,_,_,rfl,rfl,SqL.of gp,oV_get il,_,rfl,ite2 (fun hz=>?_) (fun hz=>?_)⟩
   ·have z:oAt hv i=none:=by
     cases e:oAt hv i with
     |none=>rfl
     |some y=>rw[e]at hz;exact absurd hz (by simp[oV])
    refine⟨_,rfl,_,rfl,_,rfl,b,p,as,n,i,ties,hv,rfl,kG _ _ bp hb2,al,B2.kept kG hpU pa,ok,nb,gp,S.len,bp,pa,hi,z,S.clo,fun hv' G' gp' D k'=>?_⟩
    exact⟨hv',_,rfl,gp',S.next ok hi D,kG.trans k'⟩
   ·have z:oAt hv i≠none:=fun e=>by rw[e]at hz;exact hz rfl
    exact⟨hv,_,rfl,gp,S.skip z,kG⟩
  ·rintro σ G ⟨hv,v3,rfl,gp,S,kG⟩
   obtain⟨hs,e,IH⟩:=S.fin
   subst e
   rw[List.map_map]at gp
   refine⟨_,rfl,q p hs G hp0 gp IH fun u o e=>kG u o (ne_of_none e hp0) (s2 _ _ e)⟩
end
end K19
namespace L2
open PySem PyProof.Rows
theorem star_scomp{e:Expr}{gs:List Comprehension}{sc:Scope}{pos:Pos}{rest:List Expr}{env:Env}:starEach (.SetComp e gs sc pos :: rest) env=(false,eval (.SetComp e gs sc pos) env) :: starEach rest env:=rfl
theorem pa_scomp{X:Cx}{es:List Expr}{pos:Pos}{te:TE}{t:TA}{e:Expr}{gs:List Comprehension}{sc:Scope}(ha:PE X (.SetComp e gs sc pos) te)(hr:PA X es t):PA X (.SetComp e gs sc pos :: es) (tCons te t):=pa_cons ha hr (hs:=star_scomp)
section
variable{K:PySem.W.Frag}{a D:Addr}{xs:List V}{b:Bool}{g:TG}{tc:TT}{tv:TE}{cap:List (Option Nat)}{σ:St}{H1:Hp}{Q:VK}
theorem scomp_seq(P:Nat->Hp->Prop)(p0:P 0 H1)(hl:∀ i H,i<=xs.length->P i H->SqB b K H a xs)
  (hs:∀ i x H,xs[i]?=some x->P i H->g x (capt cap σ) H fun σ2 H2=>Kp (capt cap σ) σ2/\tc σ2 H2 fun b H3=>if b=true then tv σ2 H3 fun y H5=>∃ H6,SPut H5 D y H6/\P (i+1) H6 else P (i+1) H3)
  (hd:∀ H,P xs.length H->Q (.ref D) H):scompTurns (ItB b K a) cap σ H1 D Q g tc tv:=by
 refine⟨xs.length,P,p0,fun i H il p=>?_⟩
 have q:=hl i H il p
 by_cases hlt:i<xs.length
 ·cases b
  all_goals
   refine .inr ⟨hlt,⟨xs,xs[i],q,by simp[hlt]⟩,fun x H' y=>?_⟩
   obtain⟨e,y⟩:=y
   subst e
   exact hs i x _ (y xs q) p
 ·have e:i=xs.length:=by lia
  subst e
  cases b
  all_goals exact .inl ⟨⟨xs,q,Nat.le_refl _⟩,hd H p⟩
end
end L2
namespace K19
open PySem L2 PyProof.Rows
noncomputable def rest(ties:List Tie)(ks:List (List Int)):List Tie:=ties.filter fun x=>!decide (pairOf x∈ks)
theorem mem_rest{ties:List Tie}{ks:List (List Int)}{x:Tie}:x∈rest ties ks↔x∈ties/\pairOf x∉ks:=by
 unfold rest
 rw[List.mem_filter]
 simp
theorem inl_inj:∀ {a b:List Int},a.map (Sum.inl:Int->Key)=b.map Sum.inl->a=b
 |[],[],_=>rfl
 |[],_ :: _,h=>by cases h
 | _ :: _,[],h=>by cases h
 |i :: a,j :: b,h=>by
  simp only[List.map_cons,List.cons.injEq,Sum.inl.injEq]at h
  rw[h.1,inl_inj h.2]
noncomputable def CutIn(K:PySem.W.Frag)(H:Hp)(c:Addr)(ks:List (List Int)):Prop:=∃ (b:Bool) (as:List Addr),SqB b K H c (as.map V.ref)/\TupsAt H as ks/\ks.length<=1000
inductive spWoutI(K:PySem.W.Frag)(vs:List V)(H:Hp)(Q:VK):Prop where
 |mk (t c:Addr) (n:Nat) (ties:List Tie) (ks:List (List Int)) (h1:vs=[.ref t,.ref c]) (h2:WebAt H t n ties) (h3:CutIn K H c ks) (h4:∀ (t':Addr) (H':Hp),H t'=none->Same H H'->WebAt H' t' n (rest ties ks)->Q (.ref t') H')
noncomputable def spWout(K:PySem.W.Frag):Sp:=fun vs H Q _=>spWoutI K vs H Q
section
variable{P:Program}{w:World}{K:PySem.W.Frag}{mg:Str->Option Value}{base:Heap}
noncomputable abbrev nWout:List Str:=["web","cut","many","ties","gone"]
theorem scWout:FnScope nWout ["web","cut"] (defScope sWithout):=⟨rfl,rfl,rfl,by decide +kernel,rfl,by decide +kernel,by decide +kernel⟩
theorem csWout1:CompScope ["pair"] [none] nWout (defScope sWithout) (scO [(".0",.local),("pair",.local)]):=⟨rfl,by decide +kernel,by decide +kernel,by decide +kernel,rfl,capB_ok (by decide +kernel)⟩
theorem ndWout1:(["pair"]:List Str).Nodup:=by decide +kernel
theorem csWout2:CompScope ["tie","gone"] [none,some 4] nWout (defScope sWithout) (scO [(".0",.local),("tie",.local),("gone",.free)]):=⟨rfl,by decide +kernel,by decide +kernel,by decide +kernel,rfl,capB_ok (by decide +kernel)⟩
theorem ndWout2:(["tie","gone"]:List Str).Nodup:=by decide +kernel
theorem ok_wout{f:Addr}{fd:FuncData}(F:Fun K "without" "without" sWithout f fd)(T:Txt mg):FnOk P w K mg base CX0 1 f fd ["web","cut"] (spWout K):=by
 refine F.ok scWout (fun vs H Q E h=>?_) (fun cdv A outer s H vs Q E hr h=>?_)
 ·obtain⟨t,c,n,ties,ks,rfl,_⟩:=h
  rfl
 ·obtain⟨t,c,n,ties,ks,rfl,W,⟨b,as,sc,tc,lk⟩,q⟩:=h
  obtain⟨⟨ts,bs,h1,h2,h3⟩,len⟩:=id W
  have h3l:bs.length=ties.length:=h3.length
  have hu:=hu_of hr
  have hu0:_<cLine:=hr.units0
  have ll:=tups_len tc
  refine⟨_,pss_cons (ps_asg (pv 0) (pg_tup (n:=2) rfl (pgs_cons (pg_name (i:=2) scWout.nd rfl (Or.inl rfl)) (pgs_cons (pg_name (i:=3) scWout.nd rfl (Or.inl rfl)) pgs_nil))))
   (pss_cons (ps_set (i:=4) scWout.nd rfl (Or.inr rfl) (pe_dcomp true hu0 rfl csWout1 (pi_seq b (pv 1)) (fun C s H fp=>pg_name (i:=0) ndWout1 rfl (Or.inl rfl)) (fun C s H fp=>pf_nil) (fun C s H fp=>pv 0) (fun C s H fp=>pe_bl)))
   (pss_one (ps_ret (@pe_tup _ _ _ _ _ (@pa_nam _ _ _ _ _ _ (pv 2) (@pa_call _ _ _ _ _ _ _ _ (pe_callTy call_tuple_of (by rfl) T.tuple boot_tuple (@pa_comp _ _ _ _ _ _ _ _ (pe_comp rfl csWout2 (pi_tup (pv 3)) (fun C s H fp=>pg_name (i:=0) ndWout2 rfl (Or.inl rfl))
    (fun C s H fp=>pf_one (pt_cmp (pc_dnotin hu (pe_slice (sl_tupK K rfl) (pv 0) po_none (po_some pe_int)) (pv 1)))) (fun C s H fp=>pv 0)) pa_nil)) pa_nil)))))),?_⟩
  refine⟨_,rfl,t,_,rfl,SqT.of h1,rfl,_,_,rfl,_,_,rfl,rfl,?_⟩
  refine⟨_,rfl,c,rfl,⟨_,sc⟩,fun D hD=>?_⟩
  refine dcomp_seq (b:=b) (K:=K) (a:=c) (xs:=as.map V.ref) (fun i G=>Same H G/\∃ kvs,G D=some (.dT kvs)/\kvs.length<=i/\∀ k:List Int,(valV kvs (k.map Sum.inl)).isSome=decide (k∈ks.take i)) ⟨Same.new hD,[],upd_same,Nat.le_refl _,fun k=>by simp[valV_nil]⟩ (fun i G _ z=>z.1.seqB sc) ?_ ?_
  ·rintro i x G hx ⟨sm,kvs,gD,kl,kv⟩
   obtain⟨il,e⟩:=List.getElem?_eq_some_iff.mp hx
   rw[List.length_map]at il
   rw[List.getElem_map]at e
   subst e
   have hk:i<ks.length:=by lia
   have a1:=sm _ _ (tups_at tc i il hk)
   refine⟨trivial,tTru_if ⟨_,rfl,_,DPut.t (k:=ks[i].map Sum.inl) gD (by rw[a1,List.map_map];rfl) (by rw[sizeLine_eq];lia),fun b o e=>?_,_,upd_same,?_,fun k=>?_⟩⟩
   ·rw[upd_ne (ne_of_none e hD)]
    exact sm _ _ e
   ·have:=length_putK kvs (ks[i].map Sum.inl) (V.bl true)
    lia
   ·rw[valV_put,List.take_succ_eq_append_getElem hk]
    by_cases ek:k.map Sum.inl=ks[i].map (Sum.inl:Int->Key)
    ·rw[if_pos ek,inl_inj ek]
     exact(decide_eq_true (List.mem_append_right _ (List.mem_singleton.mpr rfl))).symm
    ·rw[if_neg ek,kv k]
     have nk:k≠ks[i]:=fun z=>ek (by rw[z])
     rw[Bool.eq_iff_iff,decide_eq_true_eq,decide_eq_true_eq,List.mem_append,List.mem_singleton]
     exact⟨.inl,fun z=>z.resolve_right nk⟩
  ·rintro G ⟨sm,kvs,gD,kl,kv⟩
   rw[List.take_of_length_le (by rw[List.length_map];lia)]at kv
   have h2G:=sm _ _ h2
   refine⟨_,rfl,_,rfl,ts,rfl,⟨_,SqT.of h2G⟩,?_⟩
   refine comp_tup (K:=K) (a:=ts) (xs:=bs.map V.ref) (fun i ys G2=>Same G G2/\∃ cs:List Addr,ys=cs.map V.ref/\Paired (fun a x=>G2 a=some (.tup (tieV x))) cs (rest (ties.take i) ks)) (by rw[List.length_map,sizeLine_eq];lia) ⟨Same.refl _,[],rfl,.nil⟩ (fun i ys G2 _ z=>z.1.tupq (SqT.of h2G)) ?_ ?_
   ·rintro i x ys G2 hx ⟨sm2,cs,rfl,pc⟩
    obtain⟨il,e⟩:=List.getElem?_eq_some_iff.mp hx
    rw[List.length_map]at il
    rw[List.getElem_map]at e
    subst e
    have it:i<ties.length:=by lia
    have hx:=(sm.trans sm2) _ _ (Paired.at h3 i il it)
    refine⟨⟨rfl,trivial⟩,_,rfl,2,rfl,bs[i],_,rfl,SqT.of hx,(fun z=>absurd (show HT.sIx 3 3 (some 2)=3 from z.2) (by decide)),fun pp hpp=>⟨_,rfl,D,_,rfl,DGet.t (kvs:=kvs) (k:=(pairOf ties[i]).map Sum.inl) ((sm2.trans (Same.new hpp)) _ _ gD) (by rw[upd_same];rfl),_,rfl,?_⟩⟩
    have rs:rest (ties.take (i+1)) ks=rest (ties.take i) ks++(if pairOf ties[i]∈ks then []else [ties[i]]):=by
     unfold rest
     rw[List.take_succ_eq_append_getElem it,List.filter_append]
     congr 1
     by_cases z:pairOf ties[i]∈ks <;> simp[z]
    rw[rs]
    rw[kv (pairOf ties[i])]
    have pc2:Paired (fun a x=>(upd G2 pp (.tup (cutV (tieV ties[i]) none (some 2)))) a=some (.tup (tieV x))) cs (rest (ties.take i) ks):=Paired.mapP pc fun a x e=>(Same.new hpp) _ _ e
    by_cases z:pairOf ties[i]∈ks
    ·rw[decide_eq_true z,if_pos z,List.append_nil]
     exact iteF ⟨sm2.trans (Same.new hpp),cs,rfl,pc2⟩
    ·rw[decide_eq_false z,if_neg z]
     refine iteT ⟨_,rfl,sm2.trans (Same.new hpp),cs++[bs[i]],by rw[List.map_append];rfl,Paired.snoc pc2 ((Same.new hpp) _ _ hx)⟩
   ·rintro ys G2 yl ⟨sm2,cs,rfl,pc⟩ D2 hD2
    rw[List.take_of_length_le (by rw[List.length_map,h3l];exact Nat.le_refl _)]at pc
    refine⟨D2,_,rfl,.inl ⟨SqL.of upd_same,fun ts2 hts2=>⟨(by show 2<=sizeLine;decide),fun t2 ht2=>?_⟩⟩⟩
    have s1:Same G2 (upd G2 D2 (.lst (cs.map V.ref))):=Same.new hD2
    have s2:Same (upd G2 D2 (.lst (cs.map V.ref))) (upd (upd G2 D2 (.lst (cs.map V.ref))) ts2 (.tup (cs.map V.ref))):=Same.new hts2
    have s3:=Same.new (o:=.tup [.int n,.ref ts2]) ht2
    refine q t2 _ ((sm.trans sm2).free (s1.free (s2.free ht2))) (sm.trans (sm2.trans (s1.trans (s2.trans s3)))) ⟨⟨ts2,cs,upd_same,s3 _ _ upd_same,Paired.mapP pc fun a x e=>s3 _ _ (s2 _ _ (s1 _ _ e))⟩,?_⟩
    have:(rest ties ks).length<=ties.length:=List.length_filter_le _ _
    lia
end
noncomputable def parted(hs ps:List Int):Bool:=decide ((nub (ps.map (hAt hs))).length=ps.length)
inductive spIPI(K:PySem.W.Frag)(vs:List V)(H:Hp)(Q:VK):Prop where
 |mk (t q c:Addr) (n:Nat) (ties:List Tie) (b:Bool) (ps:List Int) (ks:List (List Int)) (h1:vs=[.ref t,.ref q,.ref c]) (h2:WebAt H t n ties) (h3:(∀ x∈ties,TieOk n x)) (h4:n<=1000) (h5:SqB b K H q (ps.map V.int)) (h6:(∀ x∈ps,0<=x/\x<n)) (h7:ps.length<=1000) (h8:CutIn K H c ks) (h9:∀ (hs:List Int) (H':Hp),IsHeads n (rest ties ks) hs->Same H H'->Q (.bl (parted hs ps)) H')
noncomputable def spIP(K:PySem.W.Frag):Sp:=fun vs H Q _=>spIPI K vs H Q
theorem at_hs{n:Nat}{ties:List Tie}{hs:List Int}(IH:IsHeads n ties hs)(j:Int)(j0:0<=j)(j1:j<n):atI (hs.map V.int) j=some (V.int (hAt hs j)):=by
 obtain⟨j,rfl⟩:∃ j':Nat,j=(j':Int):=⟨j.toNat,by lia⟩
 have jl:j<hs.length:=by rw[IH.len];lia
 exact atI_nat (by rw[List.getElem?_map,List.getElem?_eq_getElem jl,hAt_nat jl];rfl)
theorem eq_bl{m k:Nat}{hs ps:List Int}(e1:m=(nub (ps.map (hAt hs))).length)(e2:k=ps.length):decide (V.int (m:Nat)=V.int (k:Nat))=parted hs ps:=by
 subst e1 e2
 unfold parted
 rw[Bool.eq_iff_iff,decide_eq_true_eq,decide_eq_true_eq]
 exact⟨fun h=>by injection h with h;lia,fun h=>by rw[h]⟩
section
variable{P:Program}{w:World}{K:PySem.W.Frag}{mg:Str->Option Value}{base:Heap}
noncomputable abbrev nIP:List Str:=["web","posts","cut","heads"]
theorem scIP:FnScope nIP ["web","posts","cut"] (defScope sIsParting):=⟨rfl,rfl,rfl,by decide +kernel,rfl,by decide +kernel,by decide +kernel⟩
theorem csIP:CompScope ["post","heads"] [none,some 3] nIP (defScope sIsParting) (scO [(".0",.local),("post",.local),("heads",.free)]):=⟨rfl,by decide +kernel,by decide +kernel,by decide +kernel,rfl,capB_ok (by decide +kernel)⟩
theorem ndIP:(["post","heads"]:List Str).Nodup:=by decide +kernel
theorem ok_ip{f g1 g2:Addr}{fd d1 d2:FuncData}(F:Fun K "is_parting" "is_parting" sIsParting f fd)(T:Txt mg)(GO:CalF P w K mg base 1 "without" ["web","cut"] (spWout K) g1 d1)(GH:CalF P w K mg base 2 "heads_of" ["web"] spHds g2 d2):FnOk P w K mg base CX0 3 f fd ["web","posts","cut"] (spIP K):=by
 refine F.ok scIP (fun vs H Q E h=>?_) (fun cdv A outer s H vs Q E hr h=>?_)
 ·obtain⟨t,q,c,n,ties,b,ps,ks,rfl,_⟩:=h
  rfl
 ·obtain⟨t,q,c,n,ties,b,ps,ks,rfl,W,ok,nb,sq,pr,pl,cu,fin⟩:=h
  have hr1:Room 1 _:=hr.mono (by decide)
  refine⟨_,pss_cons (ps_set (i:=3) scIP.nd rfl (Or.inr rfl) (pe_call GH.ok hr rfl GH.mg GH.kp GH.bd .nil pass0 (@pa_call _ _ _ _ _ _ _ _ (pe_call GO.ok hr1 rfl GO.mg GO.kp GO.bd .nil pass0 (@pa_nam _ _ _ _ _ _ (pv 0) (@pa_nam _ _ _ _ _ _ (pv 2) pa_nil))) pa_nil)))
   (pss_one (ps_ret (pe_cmpR op_eq (pe_callB call_lenS (by rfl) T.len PySem.boot_len (@pa_scomp _ _ _ _ _ _ _ _ (pe_scomp rfl csIP (pi_seq b (pv 1)) (fun C s H fp=>pg_name (i:=0) ndIP rfl (Or.inl rfl)) (fun C s H fp=>pf_nil)
    (fun C s H fp=>pe_ix (ix_listK K rfl) (pv 1) (pv 0) (fun _ _=>rfl))) pa_nil)) (pe_callB call_len_seq (by rfl) T.len PySem.boot_len (@pa_nam _ _ _ _ _ _ (pv 1) pa_nil)) (nomark _)))),?_⟩
  refine⟨_,rfl,_,rfl,t,c,n,ties,ks,rfl,W,cu,fun t' H1 ht' s1 W1=>?_⟩
  refine⟨t',n,rest ties ks,rfl,W1,fun x hx=>ok x (mem_rest.mp hx).1,nb,fun p hs H2 hp gp IH s2=>?_⟩
  have s12:=s1.trans s2
  refine⟨_,rfl,q,rfl,⟨_,s12.seqB sq⟩,fun D hD=>?_⟩
  have sD:=Same.new (o:=sEmp) hD
  refine scomp_seq (b:=b) (K:=K) (a:=q) (xs:=ps.map V.int) (fun i G=>Same H2 G/\G D=some (setI ((ps.take i).map (hAt hs)))) ⟨sD,upd_same⟩ (fun i G _ z=>(s12.trans z.1).seqB sq) ?_ ?_
  ·rintro i x G hx ⟨sG,gD⟩
   obtain⟨il,e⟩:=List.getElem?_eq_some_iff.mp hx
   rw[List.length_map]at il
   rw[List.getElem_map]at e
   subst e
   obtain⟨o1,o2⟩:=pr _ (List.getElem_mem il)
   refine⟨⟨rfl,trivial⟩,tTru_if ?_⟩
   refine⟨_,rfl,_,rfl,p,_,_,_,rfl,rfl,SqL.of (sG _ _ gp),at_hs IH _ o1 o2,_,sput_I gD (by rw[List.length_map,List.length_take];unfold scanBound;lia),?_,?_⟩
   ·intro u o e
    rw[upd_ne (ne_of_none e hD)]
    exact sG _ _ e
   ·rw[upd_same,List.take_succ_eq_append_getElem il,List.map_append]
    rfl
  ·rintro G ⟨sG,gD⟩
   rw[List.take_of_length_le (by rw[List.length_map];lia)]at gD
   refine⟨D,_,rfl,gD,?_⟩
   refine⟨_,rfl,q,ps.map V.int,rfl,?_,rfl,?_⟩
   ·have:=(s12.trans sG).seqB sq
    cases b
    ·exact .inl this
    ·exact .inr this
   ·rw[eq_bl (hs:=hs) (ps:=ps) rfl (by rw[List.length_map])]
    exact fin hs _ IH (s12.trans sG)
end
end K19
namespace L2
open PySem PySem.W PyProof.Rows
end L2
namespace Srt
open PySem PySem.W PyProof.Rows
open PySem.AutoSeq1 (wpAny_loadPart')
theorem lexlt_nil(ns:List Int):lexlt ns []=false:=by
 cases ns <;> rfl
theorem lexlt_drop{ns ms:List Int}:lexlt (ns.drop (min ns.length ms.length)) (ms.drop (min ns.length ms.length))=decide (ns.length<ms.length):=by
 by_cases h:ns.length<ms.length
 ·rw[Nat.min_eq_left (Nat.le_of_lt h),List.drop_length,decide_eq_true h]
  cases e:ms.drop ns.length with
  |nil =>
   have:=congrArg List.length e
   rw[List.length_drop]at this
   simp at this
   lia
  |cons x r=>rfl
 ·rw[Nat.min_eq_right (by lia),List.drop_length,lexlt_nil,decide_eq_false h]
theorem IntsV.at{ns:List Int}{us:List Value}(h:IntsV ns us):∀ (i:Nat) (h1:i<ns.length) (h2:i<us.length),∃ t,us[i]=Value.int ns[i] t:=by
 induction h with
 |nil=>intro i h1;simp at h1
 |cons r _ ih =>
  intro i h1 h2
  cases i with
  |zero=>exact r
  |succ i=>exact ih i (by simpa using h1) (by simpa using h2)
theorem rcLt{prog:Program}{w:World}{A:Around}{E:Value->Shared->Prop}{s:Shared}{a b:Int}{t u:Tok}{Q:Value->Shared->Prop}(h:Q (.bool (decide (a<b))) s):wpAny (model prog w) A (richCompare .Lt (.int a t) (.int b u)) Q E s:=lt_int h
theorem tuple_lt_meets(l b:Addr)(its its2:Array Value)(ns ms:List Int)(n n2:Nat)(dd dd2:Option Addr)(sl sl2:Array (Option Value))(p1:IntsV ns its.toList)(p2:IntsV ms its2.toList) :
  Meets (Builtin.«tuple.__lt__» ⟨[.ref l,.ref b],[]⟩)
   (fun A R s=>s.heap.get? l=some { cls:=.type "tuple",dict:=dd,data:=.seq its n,slots:=sl }/\s.heap.get? b=some { cls:=.type "tuple",dict:=dd2,data:=.seq its2 n2,slots:=sl2 } /\
    R (.ok (.ret (.bool (lexlt ns ms)))) s) :=
 .of_wp fun prog w A R s h=>by
  obtain⟨hp,g,d,tk,os⟩:=s
  obtain⟨hl,hb,h⟩:=h
  have f2:=AutoSeq1.sub_tuple_tuple
  have e1:its.size=ns.length:=by rw[p1.length];simp
  have e2:its2.size=ms.length:=by rw[p2.length];simp
  have hZ:(its.toList.zip its2.toList).length=min ns.length ms.length:=by simp[e1,e2]
  wp_walk using wpAny_loadPart' hl,wpAny_loadPart' hb,wpAny_forIn_list _ (fun rest q s'=>q.1=none/\s'=⟨hp,g,d,tk,os⟩/\∃ i,i<=min ns.length ms.length/\rest=(its.toList.zip its2.toList).drop i /\
   R (.ok (.ret (.bool (lexlt (ns.drop i) (ms.drop i))))) ⟨hp,g,d,tk,os⟩) _
  case turn =>
   rintro⟨y,x⟩ rest q s' ⟨hq,rfl,i,hi,hz,hR⟩
   have lt:i <(its.toList.zip its2.toList).length:=by
    rcases Nat.lt_or_ge i (its.toList.zip its2.toList).length with z | z
    ·exact z
    ·rw[List.drop_of_length_le z]at hz;cases hz
   have a1:i<ns.length:=by omega
   have a2:i<ms.length:=by omega
   obtain⟨t1,q1⟩:=p1.at i a1 (by simp;lia)
   obtain⟨t2,q2⟩:=p2.at i a2 (by simp;lia)
   rw[List.drop_eq_getElem_cons lt]at hz
   injection hz with hyx hrest
   have hy:y = .int ns[i] t1:=by have:=congrArg Prod.fst hyx;rw[<- q1];simpa using this
   have hx:x = .int ms[i] t2:=by have:=congrArg Prod.snd hyx;rw[<- q2];simpa using this
   subst hy hx
   rw[List.drop_eq_getElem_cons a1,List.drop_eq_getElem_cons a2]at hR
   refine wpAny_bind (SeqAt.EqAt.int_int _ _ _ _ prog w _ _ ?_)
   by_cases z:ns[i]=ms[i]
   ·have zb:(ns[i] == ms[i])=true:=by simpa using z
    rw[zb]
    have l1:lexlt (ns[i] :: ns.drop (i+1)) (ms[i] :: ms.drop (i+1))=lexlt (ns.drop (i+1)) (ms.drop (i+1)):=by simp[lexlt,z]
    rw[l1]at hR
    wp_walk
    exact⟨rfl,rfl,i+1,by lia,hrest,hR⟩
   ·have zb:(ns[i] == ms[i])=false:=by simpa using z
    rw[zb]
    have l1:lexlt (ns[i] :: ns.drop (i+1)) (ms[i] :: ms.drop (i+1))=decide (ns[i]<ms[i]):=by simp[lexlt,z]
    rw[l1]at hR
    wp_walk using rcLt
    exact⟨_,rfl,hR⟩
  case fin =>
   rintro⟨b1,b2⟩ s' ⟨hb',rfl,i,hi,hz,hR⟩
   simp only at hb'
   subst hb'
   have ge:min ns.length ms.length<=i:=by
    rcases Nat.lt_or_ge i (its.toList.zip its2.toList).length with z | z
    ·rw[List.drop_eq_getElem_cons z]at hz;cases hz
    ·exact hZ▸z
   obtain rfl:i=min ns.length ms.length:=by lia
   rw[lexlt_drop]at hR
   wp_walk
   exact⟨_,rfl,by simpa[Builtin.Tuple.tupleCompareSizes,e1,e2]using hR⟩
  case h =>
   exact⟨rfl,rfl,0,Nat.zero_le _,rfl,by simpa using h⟩
section
variable{prog:Program}{w:World}{A:Around}{E:Value->Shared->Prop}{s:Shared}
theorem lt_tups{p q:Addr}{ns ms:List Int}{Q:Value->Shared->Prop}(hu:A.units<cLine)(x:TupI s.heap (.ref p) ns)(y:TupI s.heap (.ref q) ms)(h:Q (.bool (lexlt ns ms)) s):wpAny (model prog w) A (compareOp .Lt (.ref p) (.ref q)) Q E s:=by
 obtain⟨a,⟨cls,dd,data,sl⟩,its,n,e1,g1,c1,d1,p1⟩:=x
 obtain⟨a',⟨cls2,dd2,data2,sl2⟩,its2,n2,e2,g2,c2,d2,p2⟩:=y
 cases e1
 cases e2
 simp only at c1 d1 c2 d2
 subst c1 d1 c2 d2
 exact richCompare_meets_room (op:=.Lt) ⟨_,g1,rfl⟩ ⟨_,g2,rfl⟩ F.slot_tuple_lt F.entry_tuple_lt (F.args_tuple_lt_2 _ _) (tuple_lt_meets p q its its2 ns ms n n2 dd dd2 sl sl2 p1 p2)
  ⟨g1,g2,show Value.bool (lexlt ns ms)≠Value.notImplemented/\Q (.bool (lexlt ns ms)) s from⟨(fun x=>nomatch x),h⟩⟩ hu
end
noncomputable def TupN(g:Heap)(v:Value)(ks:List Int):Prop:=∃ a ob t n x tk ns,v=Value.ref a/\g.get? a=some ob/\ob.cls = .type "tuple"/\ob.data = .seq #[.int x tk,.ref t] n/\TupI g (.ref t) ns/\ks=x :: ns
theorem TupN.inj{g:Heap}{v:Value}{ks js:List Int}(x:TupN g v ks)(y:TupN g v js):ks=js:=by
 obtain⟨a,ob,t,n,i,tk,ns,rfl,g1,_,d1,p1,rfl⟩:=x
 obtain⟨a',ob',t',n',i',tk',ns',e,g2,_,d2,p2,rfl⟩:=y
 cases e
 rw[g1]at g2
 cases g2
 rw[d1]at d2
 cases d2
 rw[p1.inj p2]
open Classical in
@[reducible] noncomputable def κN(g:Heap):KeyKind where
 α:=List Int
 blt:=lexlt
 irrefl:=lexlt_irrefl
 trans:=lexlt_trans
 negTrans:=lexlt_neg
 total:=lexlt_total
 keyOf v:=if h:∃ ks,TupN g v ks then some h.choose else none
 dflt:=([]:List Int)
open Classical in
theorem κN_key{g:Heap}{v:Value}{ks:List Int}(x:TupN g v ks):(κN g).keyOf v=some ks:=by
 have h:∃ js,TupN g v js:=⟨ks,x⟩
 show(if h:∃ js,TupN g v js then some h.choose else none)=some ks
 rw[dif_pos h,h.choose_spec.inj x]
open Classical in
theorem κN_of{g:Heap}{v:Value}{ks:List Int}(e:(κN g).keyOf v=some ks):TupN g v ks:=by
 have e':(if h:∃ js,TupN g v js then some h.choose else none)=some ks:=e
 by_cases h:∃ js,TupN g v js
 ·rw[dif_pos h]at e'
  rw[<- Option.some.inj e']
  exact h.choose_spec
 ·rw[dif_neg h]at e'
  cases e'
section
variable{prog:Program}{w:World}{A:Around}{E:Value->Shared->Prop}{s:Shared}
theorem ltN_ok{h₁:Heap}(hu:A.units<cLine)(kp:∀ v ks,TupN h₁ v ks->TupN s.heap v ks):LtOk (κN h₁) (tuples' true) prog w A s:=by
 intro E x y ka kb Q st hk ha hb q
 obtain⟨a,ob,t,n,i,tk,ns,e1,g1,_,d1,p1,rfl⟩:=kp _ _ (κN_of ha)
 obtain⟨a',ob',t',n',j,tk',ms,e2,g2,_,d2,p2,rfl⟩:=kp _ _ (κN_of hb)
 rw[lt'_eq]
 refine wpS_bind (wpS_get ?_)
 rw[hk,e1,e2]
 refine wpS_bind (wpS_lift (wpAny_attempt (kat_lt g1 d1 g2 d2 ?_)))
 have q:Q (some (lexlt (i :: ns) (j :: ms))) st:=q
 show KatLex prog w A true (decide (2<2)) _ [(.int i tk,.int j tk'),(.ref t,.ref t')] 0 s
 refine kat_cons (wpAny_eqBool_int (kat_go (fun z=>kat_yes ?_) fun z=>kat_no ?_))
 ·have z':i=j:=by simpa using z
  have l:lexlt (i :: ns) (j :: ms)=lexlt ns ms:=by simp[lexlt,z']
  refine kat_cons (L2.eqT hu p1 p2 prog w _ _ (kat_go (fun z=>kat_yes (kat_nil ?_)) fun z=>kat_no ?_))
  ·have z2:ns=ms:=of_decide_eq_true z
   refine⟨rfl,?_⟩
   rw[l,z2,lexlt_irrefl]at q
   exact wpS_pure q
  ·refine kat_one _ _ (lt_tups hu p1 p2 ?_)
   refine⟨rfl,?_⟩
   rw[l]at q
   exact wpS_pure q
 ·have z':i≠j:=by simpa using z
  have l:lexlt (i :: ns) (j :: ms)=decide (i<j):=by simp[lexlt,z']
  rw[l]at q
  exact oneLt_int ⟨rfl,wpS_pure q⟩
theorem tupsN_of{g:Heap}:∀ {us:List Value}{ks:List (List Int)},Paired (TupN g) us ks->∃ fs:List Value,KatTups g us fs/\fs.length=us.length/\∀ v∈fs,∃ i t,v=Value.int i t:=by
 intro us ks h
 induction h with
 |nil=>exact⟨[],trivial,rfl,fun _ h=>nomatch h⟩
 |cons h r ih =>
  obtain⟨a,ob,t,n,i,tk,ns,e,g1,c,d,_⟩:=h
  subst e
  obtain⟨fs,t',l,z⟩:=ih
  refine⟨.int i tk :: fs,KatTups.cons g1 c d rfl t',by simp[l],fun v hv=>?_⟩
  rcases List.mem_cons.mp hv with e | e
  ·exact⟨i,tk,e⟩
  ·exact z v e
theorem kindN{us:List Value}{ks:List (List Int)}{Q:SortKind->Shared->Prop}(h:Paired (TupN s.heap) us ks)(h2:2<=us.length)(q:Q (tuples' true) s):wpAny (model prog w) A (keyKind' us.toArray) Q E s:=by
 obtain⟨fs,t,l,z⟩:=tupsN_of h
 refine kat_kind (T:=Value.type "int") t (by lia) (fun v hv=>?_) (by decide) ?_
 ·obtain⟨i,tk,rfl⟩:=z v hv
  exact Looks.now
 ·have e:(Value.type "int" != Value.type "tuple")=true:=by decide
  rw[e]
  exact q
theorem fold_ok{body:Value->PUnit->Sem (ForInStep PUnit)}{vs:List Value}(J:Nat->List Value->Shared->Prop)
  (hb:∀ i x ks s,vs[i]?=some x->J i ks s->wpAny (model prog w) A (body x ⟨⟩) (fun r s'=>r = .yield ⟨⟩/\∃ k,J (i+1) (ks++[k]) s') E s) :
  ∀ (r:List Value) (i:Nat) (ks:List Value) (s:Shared),vs.drop i=r->i<=vs.length->J i ks s->wpAny (model prog w) A (forIn r PUnit.unit body) (fun _ s'=>∃ ks',J vs.length ks' s') E s
 |[],i,ks,s,hr,hi,h=>by
  rw[List.forIn_nil]
  have e:i=vs.length:=by
   have:=congrArg List.length hr
   rw[List.length_drop]at this
   simp at this
   lia
  exact wpAny_pure ⟨ks,by rw[<- e];exact h⟩
 |x :: r,i,ks,s,hr,hi,h=>by
  have hx:vs[i]?=some x:=by
   have:=congrArg (·[0]?) hr
   simpa using this
  have lt:i<vs.length:=(List.getElem?_eq_some_iff.mp hx).1
  rw[List.forIn_cons]
  refine wpAny_bind (wpAny_mono (hb i x ks s hx h) (fun q s' hq=>?_) fun _ _ e=>e)
  obtain⟨rfl,k,h'⟩:=hq
  refine fold_ok J hb r (i+1) _ s' ?_ lt h'
  rw[<- List.drop_drop,hr]
  rfl
theorem sort_keyed{D:Addr}{f:Value}{vs:List Value}{n:Nat}{P:Fin->Shared->Prop}(ho:s.heap.get? D=some (seqObj "list" vs.toArray n))(hl:vs.length<64)
  (h:∀ (kS:Addr) (e1:Nat) (g:Heap),s.heap.objs.size<=kS->g.get? D=some (seqObj "list" #[] e1)->g.get? kS=some (seqObj "list" #[] 0)->(∀ b u,b≠D->s.heap.get? b=some u->g.get? b=some u) ->
   ∃ J:Nat->List Value->Shared->Prop,J 0 [] { s with heap:=g } /\
    (∀ i x ks s1,vs[i]?=some x->J i ks s1->wpAny (model prog w) A (call f [x]) (fun k s2=>∃ e,s2.heap.get? kS=some (seqObj "list" ks.toArray e)/\ks.length<=i /\
     ∀ (g2:Heap) (c:Nat),Heap.SameBut kS s2.heap g2->g2.get? kS=some (seqObj "list" (ks++[k]).toArray c)->J (i+1) (ks++[k]) { s2 with heap:=g2 }) (fun _ _=>False) s1) /\
    ∀ ks s1,J vs.length ks s1->(∃ e,s1.heap.get? kS=some (seqObj "list" ks.toArray e))/\s1.heap.get? D=some (seqObj "list" #[] e1)/\ks.length=vs.length/\∃ js,Paired (TupN s1.heap) ks js /\
     ∀ (xs:Array Keyed) (g2:Heap) (c:Nat),xs.toList.Perm (ks.zip vs)->SortedToK (κN s1.heap) xs xs.size->(∀ b u,b≠D->b≠kS->s1.heap.get? b=some u->g2.get? b=some u)->g2.get? D=some (seqObj "list" (xs.toList.map (·.2)).toArray c) ->
      P (.done (.ret .none)) { s1 with heap:=g2 }) (hu:A.units<cLine) :
  wpAny (model prog w) A (ksk_tree D f false) P E s:=by
 have lt0:D<s.heap.objs.size:=Heap.lt_size ho
 obtain⟨e1,g1⟩:∃ c1,(s.heap.update D (Obj.mapSeq fun _=>#[])).get? D=some (seqObj "list" #[] c1):=⟨_,get?_update_seq ho _⟩
 have k1:∀ b u,b≠D->s.heap.get? b=some u->(s.heap.update D (Obj.mapSeq fun _=>#[])).get? b=some u:=fun b u ne e=>by rw[Heap.get?_update_ne _ _ _ _ ne];exact e
 have z1:(s.heap.update D (Obj.mapSeq fun _=>#[])).objs.size=s.heap.objs.size:=Heap.size_update ..
 generalize hg1:s.heap.update D (Obj.mapSeq fun _=>#[])=G1 at k1 g1 z1
 have kz:(G1.push (seqObj "tuple" vs.toArray 0)).objs.size=s.heap.objs.size+1:=by rw[size_push',z1]
 obtain⟨J,j0,st,fin⟩:=h (G1.push (seqObj "tuple" vs.toArray 0)).objs.size e1 ((G1.push (seqObj "tuple" vs.toArray 0)).push (seqObj "list" #[] 0)) (by rw[kz];exact Nat.le_succ _) (Heap.get?_push_of_some _ (Heap.get?_push_of_some _ g1)) (Heap.get?_push_size _ rfl)
  fun b u ne e=>Heap.get?_push_of_some _ (Heap.get?_push_of_some _ (k1 b u ne e))
 unfold ksk_tree
 refine wpAny_bind (listItems_at ho rfl (wpAny_bind (listUpdate_at ho rfl ?_ (hsz:=by rw[List.size_toArray,sizeLine_eq];lia))))
 rw[hg1]
 refine wpAny_bind (seqEpoch_at g1 rfl (wpAny_bind (wpAny_newTuple ?_ (by show vs.length<=_;rw[sizeLine_eq];lia))))
 refine wpAny_bind (wpAny_newList (wpAny_holding ?_))
 show wpAny (model prog w) A _ P E { s with heap:=(G1.push (seqObj "tuple" vs.toArray 0)).push (seqObj "list" #[] 0) }
 have neKD:(G1.push (seqObj "tuple" vs.toArray 0)).objs.size≠D:=by rw[kz];exact Nat.ne_of_gt (Nat.lt_succ_of_lt lt0)
 generalize (G1.push (seqObj "tuple" vs.toArray 0)).objs.size=kS at st fin neKD ⊢
 generalize (G1.push (seqObj "tuple" vs.toArray 0)).push (seqObj "list" #[] 0)=G2 at j0 ⊢
 unfold ksk_rest
 refine wpAny_bind (wpAny_rule ?_)
 rw[List.forIn_toArray]
 refine wpAny_bind (wpAny_mono (fold_ok (E:=E) J (fun i x ks s1 hx hJ=>?_) vs 0 [] _ rfl (Nat.zero_le _) j0) (fun _ s1 hd=>?_) fun _ _ e=>e)
 ·have lt:i<vs.length:=(List.getElem?_eq_some_iff.mp hx).1
  refine wpAny_bind (wpAny_attempt (wpAny_mono (st i x ks s1 hx hJ) (fun k s2 hk=>?_) fun _ _ hF=>hF.elim))
  obtain⟨e,gk,kl,nx⟩:=hk
  dsimp only
  refine wpAny_bind (listUpdate_at gk rfl ?_ (by rw[List.size_toArray,sizeLine_eq];lia) (by rw[Array.size_push,List.size_toArray,sizeLine_eq];lia))
  obtain⟨c2,hc2⟩:∃ c2,(s2.heap.update kS (Obj.mapSeq (·.push k))).get? kS=some (seqObj "list" (ks++[k]).toArray c2):=⟨_,by rw[show(ks++[k]).toArray=ks.toArray.push k by simp];exact get?_update_seq gk (·.push k)⟩
  exact wpAny_pure ⟨rfl,k,nx _ c2 (Heap.SameBut.update ..) hc2⟩
 ·obtain⟨ks,hJ⟩:=hd
  obtain⟨⟨e,gk⟩,gD,kl,js,PT,out⟩:=fin ks s1 hJ
  try dsimp only
  refine wpAny_bind (listItems_at gk rfl ?_)
  have tail:∀ st':SortSt,failedOf st'=none->(arrOf st').toList.Perm (ks.zip vs)->SortedToK (κN s1.heap) (arrOf st') (arrOf st').size->wpAny (model prog w) A (ksk_tail D false e1 (.ref kS) st') P E s1:=fun st' hf hp hs=>by
   have hz:(arrOf st').size=vs.length:=by
    have:=hp.length_eq
    rw[List.length_zip]at this
    simp at this
    lia
   obtain⟨ck,gk'⟩:∃ c,(s1.heap.update kS (Obj.mapSeq fun _=>#[])).get? kS=some (seqObj "list" #[] c):=⟨_,get?_update_seq gk _⟩
   have gD':(s1.heap.update kS (Obj.mapSeq fun _=>#[])).get? D=some (seqObj "list" #[] e1):=by rw[Heap.get?_update_ne _ _ _ _ (Ne.symm neKD)];exact gD
   have k2:∀ b u,b≠kS->s1.heap.get? b=some u->(s1.heap.update kS (Obj.mapSeq fun _=>#[])).get? b=some u:=fun b u ne e=>by rw[Heap.get?_update_ne _ _ _ _ ne];exact e
   unfold ksk_tail
   try dsimp only
   refine wpAny_bind (listUpdate_at gk rfl ?_ (hsz:=by rw[List.size_toArray,sizeLine_eq];lia))
   refine wpAny_bind (wpAny_letGo ?_)
   generalize s1.heap.update kS (Obj.mapSeq fun _=>#[])=G3 at gD' k2 ⊢
   refine wpAny_bind (seqEpoch_at gD' rfl (wpAny_bind (listUpdate_at gD' rfl ?_ (hsz2:=by simp only[Bool.false_eq_true,if_false];rw[Array.size_map,hz,sizeLine_eq];lia))))
   rw[hf]
   simp only[bne_self_eq_false,Bool.false_eq_true,if_false]
   obtain⟨c3,g3⟩:∃ c3,(G3.update D (Obj.mapSeq fun _=>(arrOf st').map (·.2))).get? D=some (seqObj "list" ((arrOf st').map (·.2)) c3):=⟨_,get?_update_seq gD' _⟩
   refine wpAny_pure (out (arrOf st') _ c3 hp hs (fun b u n1 n2 e=>by rw[Heap.get?_update_ne _ _ _ _ n1];exact k2 b u n2 e) ?_)
   rw[g3]
   congr 2
   apply Array.ext'
   simp
  have zz:(ks.toArray.zip vs.toArray).toList=ks.zip vs:=by simp
  have zs:(ks.toArray.zip vs.toArray).size=vs.length:=by simp[kl]
  unfold ksk_end
  simp only[Bool.false_eq_true,if_false]
  by_cases h2:vs.toArray.size<2
  ·rw[if_pos h2,if_pos h2]
   refine wpAny_bind (wpAny_pure ?_)
   rw[StateT.run_pure]
   refine wpAny_bind (wpAny_pure ?_)
   dsimp only
   refine tail _ rfl (by show(ks.toArray.zip vs.toArray).toList.Perm _;rw[zz]) fun i j ij jl=>?_
   have jl:j <(ks.toArray.zip vs.toArray).size:=jl
   have e:i=j:=by
    rw[zs]at jl
    simp only[List.size_toArray]at h2
    lia
   rw[e]
   exact KeyOrd.kle_refl _
  ·have h2':2<=vs.length:=by simpa using h2
   rw[if_neg h2,if_neg h2]
   refine wpAny_bind (kindN PT (by lia) ?_)
   have h0:KeysOf (κN s1.heap) (ks.toArray.zip vs.toArray):=fun p hp=>by
    rw[zz]at hp
    have m:=(List.of_mem_zip hp).1
    clear out tail zz zs hp gk st j0 kl hJ fin
    induction PT with
    |nil=>cases m
    |cons r _ ih =>
     rcases List.mem_cons.mp m with e | e
     ·rw[e];exact⟨_,κN_key r⟩
     ·exact ih e
   refine wpAny_bind (wpAny_mono (runs_okZ (κ:=κN s1.heap) (kd:=tuples' true) (a₀:=ks.toArray.zip vs.toArray) (st:=SortSt.mk' (tuples' true) (ks.toArray.zip vs.toArray) #[] 7 none) (Q:=fun _ st'=>(arrOf st').Perm (ks.toArray.zip vs.toArray)/\failedOf st'=none/\SortedToK (κN s1.heap) (arrOf st') (ks.toArray.zip vs.toArray).size)
    (ltN_ok hu fun _ _ x=>x) h0 ⟨Array.Perm.refl _,rfl,rfl,rfl,fun k z=>absurd z (Nat.not_lt_zero _)⟩ (by rw[zs];exact h2') (by rw[zs];exact hl) fun st' a1 a2 a3=>⟨a1,a2,fun i j ij jl=>by
     have:=a3 i j ij jl
     rw[Nat.zero_add,Nat.zero_add]at this
     exact this⟩) ?_ fun _ _ e=>e)
   rintro⟨⟨⟩,st'⟩ s' ⟨rfl,hp,hf,hs⟩
   dsimp only
   refine tail st' hf ?_ ?_
   ·rw[<- zz];exact Array.perm_iff_toList_perm.mp hp
   ·rw[hp.size_eq];exact hs
end
end Srt
namespace L2
open PySem PySem.W PyProof.Rows Srt
noncomputable def cdO(c:Addr)(q:Str):HO:=.ext fun h=>h.CodeRec (.ref c) q
theorem cdO_ok{P:Program}{w:World}{H:Hp}{h:Heap}{c:Addr}{q:Str}(r:h.CodeRec (.ref c) q):ObjOk P w H h c (cdO c q):=by
 refine⟨r,?_,fun h1 h2 z k=>?_⟩
 ·obtain⟨c',o,vs,t,e,g,_⟩:=r
  cases e
  exact⟨o,g⟩
 ·obtain⟨c',o,vs,t,e,g,d⟩:=z
  cases e
  exact⟨c,o,vs,t,rfl,k o g,d⟩
noncomputable def TabH(P:Addr)(pos:Pos)(q:Str)(H:Hp):Prop:=H P=some (.tbl #[])\/∃ c,H P=some (.tbl #[rawInt pos.line,rawInt pos.col,.ref c])/\H c=some (cdO c q)
noncomputable def BytP(P:Addr)(H H':Hp):Prop:=∀ b o,b≠P->H b=some o->H' b=some o
theorem BytP.trans{P:Addr}{H H' H'':Hp}(a:BytP P H H')(b:BytP P H' H''):BytP P H H'':=fun c o n e=>b c o n (a c o n e)
theorem BytP.of{P:Addr}{H H':Hp}(s:Same H H'):BytP P H H':=fun c o _ e=>s c o e
theorem TabH.same{P:Addr}{pos:Pos}{q:Str}{H H':Hp}(t:TabH P pos q H)(s:Same H H'):TabH P pos q H':=by
 rcases t with t |⟨c,t,u⟩
 ·exact .inl (s _ _ t)
 ·exact .inr ⟨c,s _ _ t,s _ _ u⟩
structure LamCx(X:Cx)(c P:Addr):Prop where
 code:X.env.code = .ref c
 hd:CodeHd X.base c P
 blt:X.base.BuiltinsAt X.mg P
section
variable{X:Cx}{pins:List (Addr×Obj)}{σ:St}{H:Hp}{s:Shared}{c P:Addr}{params:Arguments}{body:Expr}{scope:Scope}{pos:Pos}{N':List Str}{cap:List (Option Nat)}
noncomputable abbrev lamObj(X:Cx)(params:Arguments)(body:Expr)(scope:Scope)(c':Addr)(ctv:Value):Obj:=kla_obj "<lambda>" (X.env.qual++"<lambda>") params body scope (closCl X.env.cells scope.names []) ((X.mg "__name__").getD .none) c' ctv
theorem lam_make(I:Inv X pins σ H s)(LC:LamCx X c P)(S:CompScope N' cap X.N X.env.scope scope)(T:TabH P pos (X.env.qual++"<lambda>") H)(hdef:defaultsOf params X.env=([],[])){Q:Value->Shared->Prop}
  (h:∀ (f c':Addr) (ctv:Value) (H':Hp) (s':Shared),Inv X (pins++[(f,lamObj X params body scope c' ctv)]) σ H' s'->TabH P pos (X.env.qual++"<lambda>") H'->H' c'=some (cdO c' (X.env.qual++"<lambda>"))->BytP P H H'->(∀ b,H' b=none->H b=none)->Q (.ref f) s') :
  wpAny (model X.prog X.w) X.A (eval (.Lambda params body scope pos) X.env) Q X.xe s:=by
 have hg:=I.mod.glob.keeps I.bk
 have hC:=LC.hd.keeps I.bk
 obtain⟨bm,ob,b1,b2,b3,b4,b5,b6⟩:=LC.blt
 have hB:s.heap.BuiltinsAt X.mg P:=⟨bm,ob,b1,b2,b3,b4,I.bk _ _ b5,b6⟩
 have hPn:H P≠none:=by
  rcases T with t |⟨_,t,_⟩ <;> rw[t] <;> simp
 have hgP:mainGlobals≠P:=fun z=>by
  obtain⟨o,_,_,e,_⟩:=I.mod.glob
  exact hPn (z ▸(I.bs _ _ e).2)
 refine kla_eval hdef ?_
 rcases T with t |⟨c',t,u⟩
 ·have hP:s.heap.get? P=some (tabObj #[]):=I.hok P _ t
  refine kla_makeFunction (mg:=X.mg) (closureFor_cells (S.clos I)) I.ok.glob hg LC.code hC hP trivial rfl hgP hB fun c' ctv h' tk hx hge hlt hrec htb=>?_
  have fc:H c'=none:=I.hok.fresh hge
  have cP:c'≠P:=fun z=>hPn (z▸fc)
  have ff:H h'.objs.size=none:=I.hok.fresh (Nat.le_trans hge (Nat.le_of_lt hlt))
  have fP:h'.objs.size≠P:=fun z=>hPn (z▸ff)
  generalize hH:upd (upd H c' (cdO c' (X.env.qual++"<lambda>"))) P (.tbl #[rawInt pos.line,rawInt pos.col,.ref c'])=H'
  have hP':H' P=some (.tbl #[rawInt pos.line,rawInt pos.col,.ref c']):=by rw[<- hH];exact upd_same
  have hc':H' c'=some (cdO c' (X.env.qual++"<lambda>")):=by rw[<- hH,upd_ne cP];exact upd_same
  have old:∀ b,b≠P->b≠c'->H' b=H b:=fun b n1 n2=>by rw[<- hH,upd_ne n1,upd_ne n2]
  have byt:BytP P H H':=fun b o n e=>by rw[old b n (ne_of_none e fc)];exact e
  have lt2:h'.objs.size <(h'.push (lamObj X params body scope c' ctv)).objs.size:=by rw[Heap.size_push];exact Nat.lt_succ_self _
  have kp:∀ b o,b≠P->s.heap.get? b=some o->(h'.push (lamObj X params body scope c' ctv)).get? b=some o:=fun b o n e=>Heap.get?_push_of_some _ (hx b o n e)
  have hok:HOk X.prog X.w H' (h'.push (lamObj X params body scope c' ctv)):=fun b o e=>by
   by_cases hbP:b=P
   ·subst hbP
    rw[hP']at e
    cases e
    show(h'.push _).get? _=some _
    exact Heap.get?_push_of_some _ htb
   ·by_cases hbc:b=c'
    ·subst hbc
     rw[hc']at e
     cases e
     refine cdO_ok ?_
     obtain⟨c1,o1,vs,t1,e1,g1,d1⟩:=hrec
     exact⟨c1,o1,vs,t1,e1,Heap.get?_push_of_some _ g1,d1⟩
    ·rw[old b hbP hbc]at e
     refine(I.hok b o e).stay (fun b' u' hb' q'=>kp b' u' (fun z=>?_) q') (fun b' q'=>byt b' _ (fun z=>?_) q') fun b' xs q'=>byt b' _ (fun z=>?_) q'
     ·rcases hb' with hb' | hb'
      ·exact hbP (hb'.symm.trans z)
      ·rw[z,t]at hb';cases hb'
     ·rw[z,t]at q';cases q'
     ·rw[z,t]at q';cases q'
  have neP:∀ b,H b=none->b≠P:=fun b n z=>hPn (z▸n)
  have I1:Inv X pins σ H' { s with heap:=h'.push (lamObj X params body scope c' ctv),toks:=tk }:=by
   refine I.step (g':=s.gens) (d':=s.drawn) (ch:=[]) (fun _ z=>nomatch z) (fun b o _ _ _ e n=>kp b o (neP b n) e) (fun b o _ _ _ e n=>⟨o.slots,kp b o (neP b n) e⟩) (fun b o _ e n=>?_) (fun b o _ e=>?_) (fun b xs e=>byt b _ (fun z=>?_) e) (fun b o u' e=>byt b _ (fun z=>?_) e) (fun b ps e=>?_) (fun m hm=>?_) hok I.bare
   ·rw[old b (neP b n) (Nat.ne_of_lt (Nat.lt_of_lt_of_le (Heap.lt_size e) hge))]
    exact n
   ·by_cases z:b=P
    ·exact⟨_,z▸Heap.get?_push_of_some _ htb⟩
    ·exact⟨o,kp b o z e⟩
   ·rw[z,t]at e;cases e
   ·rw[z,t]at e;cases e
   ·by_cases z:b=P
    ·subst z
     rw[t]at e
     cases e
     exact⟨#[rawInt pos.line,rawInt pos.col,.ref c'],by rw[hP'];simp⟩
    ·exact⟨#[],by rw[byt b _ z e];simp⟩
   ·obtain⟨o,es,ep,ho,r⟩:=hm
    exact⟨o,es,ep,kp _ o (neP _ I.free) ho,r⟩
  refine h h'.objs.size c' ctv H' _ (I1.pins_of fun p hp=>?_) (.inr ⟨c',hP',hc'⟩) hc' byt fun b n=>?_
  ·rcases List.mem_append.mp hp with hp | hp
   ·exact I1.pin p (List.mem_append_right _ hp)
   ·have e:p=(h'.objs.size,lamObj X params body scope c' ctv):=by simpa using hp
    subst e
    have sz:s.heap.objs.size<=h'.objs.size:=Nat.le_trans hge (Nat.le_of_lt hlt)
    refine⟨Heap.get?_push_size _ rfl,?_,Nat.ne_of_gt (Nat.lt_of_lt_of_le I.lt sz),I.nofs sz,fun v z=>by cases z⟩
    show H' h'.objs.size=none
    rw[old _ fP (Nat.ne_of_gt hlt)]
    exact ff
  ·have n1:b≠P:=fun z=>by rw[z,hP']at n;cases n
   have n2:b≠c':=fun z=>by rw[z,hc']at n;cases n
   rw[<- old b n1 n2]
   exact n
 ·have hP:s.heap.get? P=some (tabObj #[rawInt pos.line,rawInt pos.col,.ref c']):=I.hok P _ t
  have hf:codeAmong pos [rawInt pos.line,rawInt pos.col,.ref c']=some (.ref c'):=codeAmong_snoc [] trivial rfl
  refine kla_makeFunctionHit (mg:=X.mg) (cv:=.ref c') (closureFor_cells (S.clos I)) I.ok.glob hg LC.code hC hP (TriplesOk_snoc _ _ _ [] trivial) hf hB fun ctv h' tk hk hsz=>?_
  have I1:Inv X pins σ H { s with heap:=h'.push (lamObj X params body scope c' ctv),toks:=tk }:=I.kept fun b u e=>Heap.get?_push_of_some _ (hk b u e)
  refine h h'.objs.size c' ctv H _ (I1.pins_of fun p hp=>?_) (.inr ⟨c',t,u⟩) u (fun b o _ e=>e) fun b n=>n
  rcases List.mem_append.mp hp with hp | hp
  ·exact I1.pin p (List.mem_append_right _ hp)
  ·have e:p=(h'.objs.size,lamObj X params body scope c' ctv):=by simpa using hp
   subst e
   exact⟨Heap.get?_push_size _ rfl,I.hok.fresh hsz,Nat.ne_of_gt (Nat.lt_of_lt_of_le I.lt hsz),I.nofs hsz,fun v z=>by cases z⟩
noncomputable abbrev lamEnv(X:Cx)(scope:Scope)(f c':Addr)(s:Shared):Env:=envX (X.env.qual++"<lambda>") scope s.heap.objs.size f (.ref c') (closCl X.env.cells scope.names [])
noncomputable def cxLam(X:Cx)(A':Around)(N':List Str)(scope:Scope)(f c':Addr)(s:Shared)(H:Hp):Cx :=
 ⟨X.prog,X.w,X.K,X.mg,X.base,A'.deeper (lamEnv X scope f c' s),N',s,H,lamEnv X scope f c' s,X.stack,lamEnv X scope f c' s :: X.stack,[],fun _=>false,true,[],fun _ _=>False⟩
theorem lam_call{A':Around}{f c':Addr}{ctv u:Value}{x:Str}{v:V}{te:TE}{Q:VK}(I:Inv X pins σ H s)(hA:A'.frames=some X.stack)(hr:Room 1 A')(hpin:(f,lamObj X params body scope c' ctv)∈X.pn++pins)(hc:H c'=some (cdO c' (X.env.qual++"<lambda>")))
  (S:CompScope N' cap X.N X.env.scope scope) (hco:scope.isCoroutine=false) (hgen:scope.isGenerator=false) (hx:scope.names.lookup x=some .local) (hN:N'[0]?=some x) (h0:cap[0]?=some none) (nd:N'.Nodup)
  (hb:∀ (fd:FuncData),fd.params=params->fd.defaults = .none->fd.kwdefaults = .none->bindArgs fd ⟨[u],[]⟩=pure [(x,u)]) (r:RelV v u)
  (he:∀ (A':Around) (f c':Addr) (s:Shared) (H:Hp),Room 0 (cxLam X A' N' scope f c' s H).A->PE (cxLam X A' N' scope f c' s H) body te) (h:te ((capt cap σ).set 0 (some v)) H Q) :
  wpAny (model X.prog X.w) A' (call (.ref f) [u]) (EP X pins σ Q) (fun _ _=>False) s:=by
 have crec:s.heap.CodeRec (.ref c') (X.env.qual++"<lambda>"):=(I.hok c' _ hc).1
 have ho:=(I.pin _ hpin).1
 have e0:Env0 X.prog X.w X.K X.mg X.base A' X.stack s H:=⟨hA,I.ok.mod,I.bs,Nat.le_trans I.ok.bsz I.sz,I.stack,I.stkFree,I.hok,I.bare⟩
 refine wpAny_call (kla_callFunE hr.depth ho rfl hco hgen rfl crec ?_)
 rw[hb _ rfl rfl rfl]
 refine wpAny_pure (wpAny_newFunctionEnv S.nocell (fun y hy=>?_) (fun h₁ hns hsb=>⟨(I.nolimit).fresh _ hsb,?_⟩) S.kind)
 ·have e:y=(x,u):=by simpa using hy
  rw[e]
  exact hx
 have old:∀ b o,s.heap.get? b=some o->h₁.get? b=some o:=fun b o e=>hsb.extBut b o (Nat.ne_of_lt (Heap.lt_size e)) (Heap.get?_push_of_some _ e)
 have clo:=S.clos I
 have snd:∀ y c,(closCl X.env.cells scope.names []).lookup y=some c->X.env.cells.lookup y=some c:=fun y c e=>closCl_sound scope.names [] clo (fun y c e=>by simp at e) y c e
 have noA:∀ b:Addr,b∉(cxLam X A' N' scope f c' s H).ex:=fun b z=>absurd (show b∈([]:List Addr)from z) (by simp)
 have hcap:0<cap.length:=(List.getElem?_eq_some_iff.mp h0).1
 have len0:(capt cap σ).length=N'.length:=by unfold capt;rw[List.length_map];exact S.len
 have J:Inv (cxLam X A' N' scope f c' s H) [] ((capt cap σ).set 0 (some v)) H { s with heap:=h₁,toks:=s.toks + [(x,u)].length }:=by
  refine⟨⟨I.ok.mod,S.kind,rfl,rfl,Nat.le_refl _,fun y z c h1 h2=>I.ok.inj y z c (snd y c h1) (snd z c h2),fun y hy=>?_,fun y c' h=>(nomatch h),fun _=>hr.hd,Around.frames_deeper hA,.inr ⟨rfl,rfl⟩,fun b z=>absurd z (noA b),e0.bs,e0.bsz,fun b _ _=>noA b,fun b z=>absurd z (noA b),e0.funs,e0.frf⟩,
   rfl,e0.bare,Un.kept old,⟨_,hns,fun j y w' h1 h2 h3=>?_⟩,fun y c1 e=>?_,I.hok.fresh (Nat.le_refl _),fun y c1 e=>I.freeC y c1 (snd y c1 e),fun p hp=>absurd (show p∈([]:List (Addr×Obj))from hp) (by simp),I.hok.kept old,by rw[List.length_set];exact len0⟩
  ·have hy:scope.names.lookup y=some .cell\/scope.names.lookup y=some .free:=hy
   rcases hy with hy | hy
   ·exact absurd rfl (S.nocell _ (lookup_mem hy))
   ·exact closCl_has scope.names [] y (lookup_mem hy)
  ·have h1:N'[j]?=some y:=h1
   by_cases hj:j=0
   ·subst hj
    rw[hN]at h1
    cases h1
    rw[List.getElem?_set_self (by rw[len0];exact(List.getElem?_eq_some_iff.mp hN).1)]at h2
    cases h2
    exact⟨u,r,.inl ⟨hx,by simp⟩⟩
   ·rw[List.getElem?_set_ne (Ne.symm hj)]at h2
    have jl:j<cap.length:=by rw[S.len];exact(List.getElem?_eq_some_iff.mp h1).1
    have hcp:=S.cap j (List.mem_range.mpr jl)
    unfold capt at h2
    rw[List.getElem?_map]at h2
    cases hq:cap[j]? with
    |none=>rw[hq]at h2;cases h2
    |some o =>
     rw[hq]at h2 hcp
     cases o with
     |none=>cases h2
     |some i =>
      simp only[h1]at hcp
      obtain⟨hNi,hfr⟩:=hcp
      have e3:σ[i]?=some (some w'):=by
       have h2:(σ[i]?).join=some w':=Option.some.inj h2
       cases hs:σ[i]? with
       |none=>rw[hs]at h2;cases h2
       |some w2=>rw[hs]at h2;have h2:w2=some w':=h2;rw[h2]
      have hm:=lookup_mem hfr
      have hk:=S.fre _ hm rfl
      obtain⟨m0,hn0,hl0⟩:=I.loc
      obtain⟨u',r',l⟩:=hl0 i y w' hNi e3 (.inr hk)
      refine⟨u',r',?_⟩
      rcases l with⟨l,_⟩ |⟨_,c1,e,z⟩
      ·rcases hk with hk | hk
       ·rw[show X.env.kindOf y=some .cell from hk]at l;cases l
       ·rw[show X.env.kindOf y=some .free from hk]at l;cases l
      ·obtain⟨c2,hc2⟩:=closCl_has (cells:=X.env.cells) scope.names [] y hm
       have hs:=snd y c2 hc2
       rw[e]at hs
       cases hs
       refine .inr ⟨.inr hfr,c1,hc2,?_⟩
       obtain⟨oc,ho',hd'⟩:=z
       exact⟨oc,old _ _ ho',hd'⟩
  ·obtain⟨v1,oc,ho',hd'⟩:=I.cell y c1 (snd y c1 e)
   exact⟨v1,oc,old _ _ ho',hd'⟩
 refine kla_codeExpr (wpAny_mono (he A' f c' s H (hr.deeper _) [] _ _ H _ J h) (fun k s' hk=>?_) fun _ _ z=>z.elim)
 obtain⟨kv,H',J',rk,q⟩:=hk
 exact I.after ⟨kv,H',J'.os,J'.bare,J'.base,J'.hok,rk,q⟩
end
open PySem PySem.W PyProof.Rows Srt
section
variable{prog:Program}{w:World}{A:Around}{E:Value->Shared->Prop}{s:Shared}
theorem collect_tup{l:Addr}{vs:List Value}{Q:List Value->Shared->Prop}(ht:IsTup s.heap l vs.toArray)(hz:vs.length<=sizeLine)
  (h:Q vs { s with heap:=(s.heap.push (seqObj "list" #[] 0)).update s.heap.objs.size (Obj.mapSeq (·++vs.toArray)) }):wpAny (model prog w) A (collect (.ref l)) Q E s:=by
 obtain⟨o,ho,hc,n,hd⟩:=ht
 unfold collect
 refine wpAny_bind (wpAny_runValue (codeAny_builtin entry_proto_collect' ?_))
 show wpAny _ _ (do again (.builtin "list.__iadd__" ⟨[<- newList [],.ref l],[]⟩)) _ _ s
 refine wpAny_bind (wpAny_newList (wpAny_pure ⟨Code.quiet_builtin _ (by decide +kernel),codeAny_builtin entry_list_iadd' ?_⟩))
 show wpAny _ _ (Builtin.List.listExtendWith (.ref s.heap.objs.size) (.ref l) (.ref s.heap.objs.size)) _ _ { s with heap:=s.heap.push (seqObj "list" #[] 0) }
 have ho2:(s.heap.push (seqObj "list" #[] 0)).get? l=some o:=Heap.get?_push_of_some _ ho
 unfold Builtin.List.listExtendWith
 refine wpAny_bind (wpAny_typeOf (T:="tuple") ⟨o,ho2,hc⟩ ?_)
 rw[if_pos (by rw[show(Value.type "tuple" == Value.type "tuple")=true from rfl];simp)]
 refine wpAny_bind (listItems_at ho2 hd (wpAny_bind (listItems_at (xs:=#[]) (n:=0) (Heap.get?_push_size _ rfl) rfl ?_)))
 rw[if_neg (by simp)]
 refine wpAny_bind (listUpdate_at (xs:=#[]) (n:=0) (Heap.get?_push_size _ rfl) rfl ?_ (Nat.zero_le _) (by show(#[]++vs.toArray).size<=sizeLine+1;simp;lia))
 refine wpAny_pure ?_
 show wpAny (model prog w) A (load s.heap.objs.size >>= fun o=>match o.data with
   | .seq xs _=>pure xs.toList
   | _=>unsupported "internal:collect") Q E { s with heap:=(s.heap.push (seqObj "list" #[] 0)).update s.heap.objs.size (Obj.mapSeq (·++vs.toArray)) }
 refine wpAny_bind (wpAny_load (get?_update_seq (Heap.get?_push_size _ rfl) _) ?_)
 have e:((#[]:Array Value)++vs.toArray).toList=vs:=by simp
 show wpAny _ _ (pure ((#[]:Array Value)++vs.toArray).toList) Q E _
 rw[e]
 exact wpAny_pure h
end
theorem pairApp{α β:Type}{F:α->β->Prop}{l1 m1:List α}{l2 m2:List β}(h:Paired F l1 l2)(k:Paired F m1 m2):Paired F (l1++m1) (l2++m2):=by
 induction h with
 |nil=>exact k
 |cons r _ ih=>exact .cons r ih
noncomputable def keyV(g:Heap)(v:Value):List Int:=(show Option (List Int)from(κN g).keyOf v).getD []
theorem keyV_eq{g:Heap}{v:Value}{k:List Int}(x:TupN g v k):keyV g v=k:=by
 unfold keyV
 rw[κN_key x]
 rfl
theorem zip_keys{g:Heap}{us:List Value}{keys:List (List Int)}(h:Paired (TupN g) us keys):∀ {as:List Addr},us.length=as.length->(us.zip (as.map Value.ref)).map (fun p=>(keyV g p.1,unref p.2))=keys.zip as:=by
 induction h with
 |nil=>intro as _;cases as <;> rfl
 |cons r _ ih =>
  intro as hl
  cases as with
  |nil=>rfl
  |cons a as =>
   rw[List.map_cons,List.zip_cons_cons,List.map_cons,List.zip_cons_cons,ih (by simpa using hl),keyV_eq r]
   rfl
theorem refs_back{as:List Addr}{us ws:List Value}:∀ {l:List (Value×Value)},(∀ p∈l,p∈us.zip (as.map Value.ref))->(l.map fun p=>unref p.2).map Value.ref=l.map (·.2)
 |[],_=>rfl
 |p :: l,h=>by
  rw[List.map_cons,List.map_cons,List.map_cons,refs_back (ws:=ws) fun p hp=>h p (List.mem_cons_of_mem _ hp)]
  have m:=(List.of_mem_zip (h p (List.mem_cons_self ..))).2
  obtain⟨a,_,e⟩:=List.mem_map.mp m
  rw[<- e]
  rfl
noncomputable def KeyAt(G:Hp)(a:Addr)(k:List Int):Prop:=∃ (t:Addr) (z:Int) (ns:List Int),G a=some (.tup [.int z,.ref t])/\G t=some (.tup (ns.map V.int))/\k=z :: ns
theorem KeyAt.same{G G':Hp}{a:Addr}{k:List Int}(h:KeyAt G a k)(s:Same G G'):KeyAt G' a k:=by
 obtain⟨t,z,ns,h1,h2,e⟩:=h
 exact⟨t,z,ns,s _ _ h1,s _ _ h2,e⟩
noncomputable def tSortK(P:Addr)(lpos:Pos)(q:Str)(cap:List (Option Nat))(t:TA)(te:TE):TE:=fun σ H Q=>t σ H fun vs H1=>∃ (l:Addr) (b:Bool) (as:List Addr) (keys:List (List Int)),vs=[.ref l]/\H1 l=some (sqO b (as.map V.ref))/\as.length<64/\keys.length=as.length/\TabH P lpos q H1 /\
 ∀ H2,BytP P H1 H2->(∀ b,H2 b=none->H1 b=none) ->
  (∀ (i:Nat) (hi:i<as.length) (G:Hp),Same H2 G->te ((capt cap σ).set 0 (some (.ref as[i]))) G fun k G'=>Same G G'/\∃ (a:Addr) (kk:List Int),k = .ref a/\keys[i]?=some kk/\KeyAt G' a kk) /\
  ∀ (l':Addr) (zs:List (List Int×Addr)) (H3:Hp),TabH P lpos q H3->Same H2 H3->H3 l'=none->zs.Perm (keys.zip as)->zs.Pairwise (fun x y=>lexlt y.1 x.1=false)->Q (.ref l') (upd H3 l' (.lst (zs.map fun z=>V.ref z.2)))
section
variable{X:Cx}{c P:Addr}{params:Arguments}{body e:Expr}{scope:Scope}{lpos p pos kpos:Pos}{N':List Str}{cap:List (Option Nat)}{x:Str}{t:TA}{te:TE}
theorem tupN_of{pins:List (Addr×Obj)}{σ:St}{H:Hp}{s:Shared}(I:Inv X pins σ H s){a:Addr}{k:List Int}(h:KeyAt H a k):TupN s.heap (.ref a) k:=by
 obtain⟨tt,z,ns,h1,h2,rfl⟩:=h
 obtain⟨its,r,⟨o,e,c,n,d⟩,_⟩:=I.tuple (SqT.of h1)
 cases r with
 |cons r1 r2 =>
  cases r2 with
  |cons r2 r3 =>
   cases r3
   obtain⟨tk,rfl⟩:=r1
   cases r2
   exact⟨a,o,tt,n,z,tk,ns,rfl,e,c,d,tupI_of I h2,rfl⟩
theorem tupsN_at{pins:List (Addr×Obj)}{σ:St}{H:Hp}{s:Shared}(I:Inv X pins σ H s){as:List Addr}{ks:List (List Int)}(h:Paired (KeyAt H) as ks):Paired (TupN s.heap) (as.map Value.ref) ks:=by
 induction h with
 |nil=>exact .nil
 |cons r _ ih=>exact .cons (tupN_of I r) ih
theorem pe_sortKey(hr:Room 3 X.A)(LC:LamCx X c P)(S:CompScope N' cap X.N X.env.scope scope)(hg:Gl X "sorted")(hm:X.mg "sorted" = none)(ha:PA X [e] t)
  (he:∀ (A':Around) (f c':Addr) (s:Shared) (H:Hp),Room 0 (cxLam X A' N' scope f c' s H).A->PE (cxLam X A' N' scope f c' s H) body te)
  (hb:∀ (u:Value) (fd:FuncData),fd.params=params->fd.defaults = .none->fd.kwdefaults = .none->bindArgs fd ⟨[u],[]⟩=pure [(x,u)])
  (hx:scope.names.lookup x=some .local) (hN:N'[0]?=some x) (h0:cap[0]?=some none) (nd:N'.Nodup) (hco:scope.isCoroutine=false:=by rfl) (hgen:scope.isGenerator=false:=by rfl) (hdef:defaultsOf params X.env=([],[]):=by rfl)
  (hs:backTo pos (starEach [e] X.env)=(false,eval e X.env) :: backTo pos (starEach [] X.env):=by rfl) (hpl:(backTo pos (starEach [e] X.env)).any (·.1)=false:=by rfl) :
  PE X (.Call (.Name "sorted" p) [e] [⟨some "key",.Lambda params body scope lpos,kpos⟩] pos) (tSortK P lpos (X.env.qual++"<lambda>") cap t te):=by
 intro pins s σ H Q I h
 refine wpAny_Call_Name_kw (ld_blt I hg hm boot_sorted ?_ (by decide) (by decide))
 refine callWith_kw (thn (ha pos pins s σ H _ I h) fun us s1 ⟨vs,H1,I1,r,q⟩=>?_) hs hpl
 obtain⟨l,b,as,keys,rfl,hl,hlen,klen,T,q⟩:=q
 obtain⟨u,rfl,rx⟩:=vals1 r
 cases rx
 refine kws_cons (lam_make I1 LC S T hdef fun f c' ctv H2 s2 I2 T2 hc2 byt fre=>kws_nil ?_)
 have q2:=q H2 byt fre
 obtain⟨qk,qo⟩:=q2
 have lP:l≠P:=fun z=>by
  rcases T with T |⟨_,T,_⟩ <;> rw[z,T]at hl <;> cases b <;> cases hl
 have hl2:=byt _ _ lP hl
 show wpAny (model X.prog X.w) X.A (call (.builtin "sorted") [.ref l] [(Str.ofString "key",.ref f)]) (EP X pins σ Q) X.xe s2
 refine call_function_entry_kw kind_sorted plain_sorted entry_sorted (ksk_s1 _ _) ?_
 unfold Builtin.«sorted»
 refine wpAny_bind (m:=checkCount "sorted" 1 1 _) (wpAny_pure ?_)
 have col:∀ {R:List Value->Shared->Prop},R (as.map Value.ref) { s2 with heap:=(s2.heap.push (seqObj "list" #[] 0)).update s2.heap.objs.size (Obj.mapSeq (·++(as.map Value.ref).toArray)) }->wpAny (model X.prog X.w) X.A.in1 (collect (.ref l)) R X.xe s2:=fun {R} hR=>by
  rcases sq_or (K:=X.K) hl2 with hq | hq
  ·obtain⟨its,r',pl,hz⟩:=I2.list hq
   have er:=refs_of r'
   subst er
   exact collect_list pl.isList hR (by rw[List.length_map,sizeLine_eq];lia)
  ·obtain⟨its,r',pl,hz⟩:=I2.tuple hq
   have er:=refs_of r'
   subst er
   exact collect_tup pl (by rw[List.length_map,sizeLine_eq];lia) hR
 refine wpAny_bind (col ?_)
 generalize hh':(s2.heap.push (seqObj "list" #[] 0)).update s2.heap.objs.size (Obj.mapSeq (·++(as.map Value.ref).toArray))=h'
 have kp:∀ b u,s2.heap.get? b=some u->h'.get? b=some u:=hh'▸collect_kept
 have szh:s2.heap.objs.size<=h'.objs.size:=by rw[<- hh',Heap.size_update,Heap.size_push];exact Nat.le_succ _
 refine wpAny_bind (wpAny_newList ?_ (by rw[List.length_map,sizeLine_eq];lia))
 have gL:(h'.push (seqObj "list" (as.map Value.ref).toArray 0)).get? h'.objs.size=some (seqObj "list" (as.map Value.ref).toArray 0):=Heap.get?_push_size _ rfl
 have kp2:∀ b u,s2.heap.get? b=some u->(h'.push (seqObj "list" (as.map Value.ref).toArray 0)).get? b=some u:=fun b u e=>Heap.get?_push_of_some _ (kp b u e)
 have Dfr:∀ G:Hp,G h'.objs.size=none->∀ {p':List (Addr×Obj)},True:=fun _ _ _=>trivial
 refine wpAny_bind (wpAny_holding (wpAny_call_entry_kw slot_list_sort ⟨_,gL,rfl⟩ entry_list_sort ?body (ksk_l1 _ _)))
 case body =>
  show wpAny (model X.prog X.w) X.A.in1.in1 (Builtin.«list.sort» ⟨[.ref h'.objs.size],[(Str.ofString "key",.ref f)]⟩) _ _ _
  rw[ksk_t1]
  have hr1:Room 1 X.A.in1.in1:=(hr.in1).in1
  refine sort_keyed (s:={ s2 with heap:=h'.push (seqObj "list" (as.map Value.ref).toArray 0) }) gL (by rw[List.length_map];exact hlen) (fun kS e1 g hk gD gk kg=>?_) hr1.units0
  have hD:s2.heap.objs.size<=h'.objs.size:=szh
  have hkS:s2.heap.objs.size<=kS:=by
   have hk:(h'.push (seqObj "list" (as.map Value.ref).toArray 0)).objs.size<=kS:=hk
   rw[Heap.size_push]at hk
   lia
  have neKD:kS≠h'.objs.size:=by
   have hk:(h'.push (seqObj "list" (as.map Value.ref).toArray 0)).objs.size<=kS:=hk
   rw[Heap.size_push]at hk
   exact Nat.ne_of_gt hk
  have k2g:∀ b u,s2.heap.get? b=some u->g.get? b=some u:=fun b u e=>kg b u (Nat.ne_of_lt (Nat.lt_of_lt_of_le (Heap.lt_size e) szh)) (kp2 b u e)
  have fpD:∀ {G:Hp},G h'.objs.size=none->FpOk X (pins++[(f,lamObj X params body scope c' ctv)]) G h'.objs.size:=fun n=>I2.fpOk hD n
  have fpK:∀ {G:Hp},G kS=none->FpOk X (pins++[(f,lamObj X params body scope c' ctv)]) G kS:=fun n=>I2.fpOk hkS n
  generalize hD':h'.objs.size=D at *
  generalize hpn:pins++[(f,lamObj X params body scope c' ctv)]=pn2 at I2 fpD fpK
  refine⟨fun i ks s3=>∃ (G:Hp) (e:Nat) (kas:List Addr),Inv X (pn2++[(D,seqObj "list" #[] e1),(kS,seqObj "list" ks.toArray e)]) σ G s3/\Same H2 G/\ks=kas.map Value.ref/\ks.length=i/\Paired (KeyAt G) kas (keys.take i),?_,?_,?_⟩
  ·refine⟨H2,0,[],?_,Same.refl _,rfl,rfl,.nil⟩
   have Ia:Inv X pn2 σ H2 { s2 with heap:=g,toks:=s2.toks }:=I2.kept k2g
   obtain⟨d0,d1,d2,_⟩:=fpD (G:=H2) (I2.hok.fresh hD)
   obtain⟨c0,c1,c2,_⟩:=fpK (G:=H2) (I2.hok.fresh hkS)
   refine Ia.pins_of fun p hp=>?_
   rcases List.mem_append.mp hp with hp | hp
   ·exact Ia.pin p (List.mem_append_right _ hp)
   ·rcases List.mem_cons.mp hp with hp | hp
    ·subst hp
     exact⟨gD,d0,d1,d2,fun v z=>by cases z⟩
    ·have z:p=(kS,seqObj "list" ([]:List Value).toArray 0):=by simpa using hp
     subst z
     exact⟨gk,c0,c1,c2,fun v z=>by cases z⟩
  ·rintro i xv ks s3 hxi ⟨G,e,kas,I3,sG,rfl,kl,pk⟩
   obtain⟨hi,ex⟩:=List.getElem?_eq_some_iff.mp hxi
   rw[List.length_map]at hi
   rw[List.getElem_map]at ex
   subst ex
   have hpin:(f,lamObj X params body scope c' ctv)∈X.pn++(pn2++[(D,seqObj "list" #[] e1),(kS,seqObj "list" (kas.map Value.ref).toArray e)]):=List.mem_append_right _ (List.mem_append_left _ (by rw[<- hpn];exact List.mem_append_right _ (by simp)))
   refine thn (lam_call (A':=X.A.in1.in1) (v:=.ref as[i]) I3 I.ok.frames hr1 hpin (sG _ _ hc2) S hco hgen hx hN h0 nd (hb _) rfl he (qk i hi G sG)) fun k s4 hk4=>?_
   obtain⟨kv,G',I4,rk,sGG,a,kk,rfl,hkk,ka⟩:=hk4
   cases rk
   have pK:=I4.pin (kS,seqObj "list" (kas.map Value.ref).toArray e) (List.mem_append_right _ (List.mem_append_right _ (by simp)))
   have pD:=I4.pin (D,seqObj "list" #[] e1) (List.mem_append_right _ (List.mem_append_right _ (by simp)))
   have pKn:G' kS=none:=pK.2.1
   refine⟨e,pK.1,by lia,fun g2 c sb gk2=>⟨G',c,kas++[a],?_,sG.trans sGG,by rw[List.map_append];rfl,by rw[List.length_append,kl];rfl,?_⟩⟩
   ·have Ia:Inv X (pn2++[(D,seqObj "list" #[] e1)]) σ G' s4:=I4.pins_of fun p hp=>I4.pin p (List.mem_append_right _ (by
     rcases List.mem_append.mp hp with hp | hp
     ·exact List.mem_append_left _ hp
     ·exact List.mem_append_right _ (List.mem_cons.mpr (.inl (by simpa using hp)))))
    obtain⟨c0,c1,c2,c3,c4,c5⟩:=fpK (G:=G') pKn
    have Ib:Inv X (pn2++[(D,seqObj "list" #[] e1)]) σ G' { s4 with heap:=g2,toks:=s4.toks }:=Ia.turned (it:=kS) (fun b o hb e=>(sb.2 b hb).trans e) c0 c1 c3 c4 fun p hp=>by
     rw[<- List.append_assoc]at hp
     rcases List.mem_append.mp hp with hp | hp
     ·exact c5 p hp
     ·have z:p=(D,seqObj "list" #[] e1):=by simpa using hp
      subst z
      exact Ne.symm neKD
    refine Ib.pins_of fun p hp=>?_
    rcases List.mem_append.mp hp with hp | hp
    ·exact Ib.pin p (List.mem_append_right _ (List.mem_append_left _ hp))
    ·rcases List.mem_cons.mp hp with hp | hp
     ·subst hp
      exact Ib.pin _ (List.mem_append_right _ (List.mem_append_right _ (by simp)))
     ·have z:p=(kS,seqObj "list" (kas.map Value.ref++[Value.ref a]).toArray c):=by simpa using hp
      subst z
      exact⟨gk2,c0,c1,c2,fun v z=>by cases z⟩
   ·obtain⟨kh,ek⟩:=List.getElem?_eq_some_iff.mp hkk
    rw[List.take_succ_eq_append_getElem kh,ek]
    exact pairApp (Paired.mapP pk fun _ _ z=>z.same sGG) (.cons ka .nil)
  ·rintro ks s3 ⟨G,e,kas,I3,sG,rfl,kl,pk⟩
   rw[List.length_map,List.length_map]at kl
   rw[List.length_map,<- klen,List.take_length]at pk
   have pK:=I3.pin (kS,seqObj "list" (kas.map Value.ref).toArray e) (List.mem_append_right _ (List.mem_append_right _ (by simp)))
   have pD:=I3.pin (D,seqObj "list" #[] e1) (List.mem_append_right _ (List.mem_append_right _ (by simp)))
   have pKn:G kS=none:=pK.2.1
   have pDn:G D=none:=pD.2.1
   have PT:Paired (TupN s3.heap) (kas.map Value.ref) keys:=tupsN_at I3 pk
   refine⟨⟨e,pK.1⟩,pD.1,by rw[List.length_map,List.length_map];exact kl,keys,PT,fun xs g2 c hp hs kg2 gD2=>⟨_,rfl,?_⟩⟩
   have T3:TabH P lpos (X.env.qual++"<lambda>") G:=T2.same sG
   have pz:(xs.toList.map fun p=>(keyV s3.heap p.1,unref p.2)).Perm (keys.zip as):=by
    rw[<- zip_keys PT (by rw[List.length_map];exact kl)]
    exact hp.map _
   have er:(xs.toList.map fun p=>unref p.2).map Value.ref=xs.toList.map (·.2):=refs_back (ws:=[]) (us:=kas.map Value.ref) (as:=as) fun p h=>hp.mem_iff.mp h
   have pw:(xs.toList.map fun p=>(keyV s3.heap p.1,unref p.2)).Pairwise (fun x y=>lexlt y.1 x.1=false):=by
    rw[List.pairwise_iff_getElem]
    intro i j hi hj ij
    rw[List.length_map,Array.length_toList]at hi hj
    have z:=hs i j (Nat.le_of_lt ij) hj
    have kk:∀ m (hm:m<xs.size),KK (κN s3.heap) xs m=keyV s3.heap xs[m].1:=fun m hm=>by
     unfold KK
     rw[getElem?_pos xs m hm]
     rfl
    rw[kk i hi,kk j hj]at z
    rw[List.getElem_map,List.getElem_map,Array.getElem_toList,Array.getElem_toList]
    exact z
   have ezs:(xs.toList.map fun p=>(keyV s3.heap p.1,unref p.2)).map (fun z=>V.ref z.2)=(xs.toList.map fun p=>unref p.2).map V.ref:=by
    rw[List.map_map,List.map_map]
    rfl
   have fin:=qo D _ G T3 sG pDn pz pw
   rw[ezs]at fin
   generalize xs.toList.map (fun p=>unref p.2)=bs at er fin
   have blen:bs.length<64:=by
    have e1:=congrArg List.length er
    rw[List.length_map,List.length_map,hp.length_eq,List.length_zip,List.length_map,List.length_map]at e1
    lia
   rw[<- er]at gD2
   obtain⟨d0,d1,d2,d3,d4,d5⟩:=fpD (G:=G) pDn
   obtain⟨c0,c1,c2,c3,c4,c5⟩:=fpK (G:=G) pKn
   have okD:ObjOk X.prog X.w (upd G D (.lst (bs.map V.ref))) g2 D (.lst (bs.map V.ref)):=by
    refine⟨by rw[List.length_map,sizeLine_eq];lia,bs.map Value.ref,c,?_,gD2⟩
    clear er fin blen gD2
    induction bs with
    |nil=>exact .nil
    |cons b bs ih=>exact .cons rfl ih
   have hok:HOk X.prog X.w (upd G D (.lst (bs.map V.ref))) g2:=fun b o eb=>by
    by_cases hb:b=D
    ·subst hb
     rw[upd_same]at eb
     cases eb
     exact okD
    ·rw[upd_ne hb]at eb
     refine(I3.hok b o eb).stay (fun b' u' hb' q'=>kg2 b' u' (fun z=>?_) (fun z=>?_) q') (fun b' q'=>by rw[upd_ne (ne_of_none q' pDn)];exact q') fun b' xs' q'=>by rw[upd_ne (ne_of_none q' pDn)];exact q'
     ·rcases hb' with hb' | hb'
      ·exact hb (hb'.symm.trans z)
      ·rw[z,pDn]at hb';cases hb'
     ·rcases hb' with hb' | hb'
      ·rw[<- hb',z,pKn]at eb;cases eb
      ·rw[z,pKn]at hb';cases hb'
   have Ia:Inv X pins σ G s3:=I3.pins_of fun p hp=>I3.pin p (List.mem_append_right _ (List.mem_append_left _ (by rw[<- hpn];exact List.mem_append_left _ hp)))
   have sub:∀ p∈X.pn++pins,p∈X.pn++pn2:=fun p hp=>by
    rcases List.mem_append.mp hp with hp | hp
    ·exact List.mem_append_left _ hp
    ·exact List.mem_append_right _ (by rw[<- hpn];exact List.mem_append_left _ hp)
   have ch2:∀ b∈[D,kS],(b∈X.ex\/X.s₀.heap.objs.size<=b)/\b≠X.env.locals/\(∀ x c,X.env.cells.lookup x=some c->c≠b)/\∀ p∈X.pn++pins,p.1≠b:=fun b hb=>by
    rcases List.mem_cons.mp hb with e | e
    ·subst e
     exact⟨d3,d1,d4,fun p hp=>d5 p (sub p hp)⟩
    ·have e:b=kS:=by simpa using e
     subst e
     exact⟨c3,c1,c4,fun p hp=>c5 p (sub p hp)⟩
   have nn:∀ {b:Addr},b∉[D,kS]->b≠D/\b≠kS:=fun {b} h=>⟨fun z=>h (by rw[z];simp),fun z=>h (by rw[z];simp)⟩
   have Ib:Inv X pins σ (upd G D (.lst (bs.map V.ref))) { s3 with heap:=g2,gens:=s3.gens,drawn:=s3.drawn,toks:=s3.toks }:=by
    refine Ia.step (ch:=[D,kS]) ch2 (fun b o _ _ h e n=>kg2 b o (nn h).1 (nn h).2 e) (fun b o _ _ h e n=>⟨o.slots,kg2 b o (nn h).1 (nn h).2 e⟩) (fun b o h e n=>by rw[upd_ne (nn h).1];exact n) (fun b o h e=>⟨o,kg2 b o (nn h).1 (nn h).2 e⟩) (fun b xs' e=>by rw[upd_ne (ne_of_none e pDn)];exact e) (fun b o u' e=>by rw[upd_ne (ne_of_none e pDn)];exact e) (fun b ps e=>⟨#[],by rw[upd_ne (ne_of_none e pDn),e];simp⟩) (fun m hm=>?_) hok Ia.bare
    obtain⟨o,es,ep,ho,r⟩:=hm
    exact⟨o,es,ep,kg2 _ o (Ne.symm d1) (Ne.symm c1) ho,r⟩
   exact wpAny_pure ⟨_,rfl,.ref D,_,Ib,rfl,fin⟩
end
open PySem PySem.W PyProof.Rows Srt
noncomputable def OnlyT(T:Addr)(H:Hp):Prop:=H T=some (.tbl #[])/\∀ b,b≠T->H b=none\/∃ o xs,H b=some (.frz o (.lst xs))
section
variable{P:Program}{w:World}{K:PySem.W.Frag}{mg:Str->Option Value}{base:Heap}
theorem Fun.okC{x qual:Str}{st:Stmt}{f:Addr}{fd:FuncData}{N ps:List Str}{k:Nat}{sp:Sp}(F:Fun K x qual st f fd)(S:FnScope N ps (defScope st))(len:∀ vs H Q E,sp vs H Q E->vs.length=ps.length)
  (hbody:∀ (cdv:Value) (A:Around) (outer:List Env) (s:Shared) (H:Hp) (vs:List V) (Q:VK) (E:XK),fd.code=cdv->Room k (A.deeper (envOfC qual (defScope st) s.heap.objs.size f cdv))->sp vs H Q E ->
   ∃ t,PSs (cxOf CX0 P w K mg base N qual (defScope st) f cdv A outer s H E).nox (defBody st) t/\t { nx:=fun _ H'=>Q .non H',rt:=Q } (start N vs) H):FnOk P w K mg base CX0 (k+1) f fd ps sp:=by
 obtain⟨oc,od,kV,doc,pm,an,cdv,ct,osl,rfl,lk,hcd⟩:=F.ex
 refine fn_of lk hcd S len fun A outer s H vs Q E hr hsp=>?_
 obtain⟨t,h,q⟩:=hbody cdv A outer s H vs Q E rfl hr hsp
 exact⟨t,h.nox,q⟩
end
theorem law_callT{P:Program}{w:World}{K:PySem.W.Frag}{mg mb:Str->Option Value}{k:Nat}{fa a c T:Addr}{fd:FuncData}{x:Str}{sp:Sp}{s₁:Shared}{vs:List Value}{ns:List Int}
  (KX:K.In s₁.heap) (hns:s₁.heap.Ns mainGlobals mg) (hb:s₁.heap.Ns builtinsNs mb) (hbb:∀ x:Str,x≠"__name__"->mb x=bootBuiltins x) (hlim:s₁.heap.NoLimit) (hg:s₁.gens = #[])
  (ha:s₁.heap.get? a=some { cls:=.type "list",data:=.seq vs.toArray }) (hi:IntsAre vs ns) (hl:ns.length<=sizeLine) (hr:Room k callerA)
  (hT:s₁.heap.get? T=some (tabObj #[])) (hC:CodeHd s₁.heap c T) (hKT:K.lookup T=none) (hB:s₁.heap.BuiltinsAt mg T)
  (F:∀ base:Heap,K.In base->base.Ns mainGlobals mg->base.BuiltinsAt mg T->FnOk P w K mg base CX0 k fa fd [x] sp) (hbind:∀ (s:Shared) (u:Value),BindsTo s fd ⟨[u],[]⟩ [(x,u)])
  (hsp:∀ H:Hp,OnlyT T H->SqL K H a (ns.map V.int)->sp [.ref a] H (fun v _=>v = .bl true) fun _ _ _=>False) :
  codeAny (model P w) callerA (.call (.ref fa) ⟨[.ref a],[]⟩) (fun r s'=>r = .ok (.ret (.bool true))/\OldK s₁.heap s'.heap/\s'.os=s₁.os/\AllBare s'.gens) s₁:=by
 have rv:=vals_ints hi
 have lenV:=hi.length
 have aT:a≠T:=fun z=>by
  rw[z,hT]at ha
  cases ha
 have core:∀ H:Hp,OnlyT T H->SqL K H a (ns.map V.int)->HOk P w H s₁.heap->(∀ b,H b≠none->b=a\/b=T)->(H a≠none->K.lookup a=none) ->
   codeAny (model P w) callerA (.call (.ref fa) ⟨[.ref a],[]⟩) (fun r s'=>r = .ok (.ret (.bool true))/\OldK s₁.heap s'.heap/\s'.os=s₁.os/\AllBare s'.gens) s₁:=by
  intro H hO hS hok hA hK
  have free:∀ {b:Addr},b≠a->b≠T->H b=none:=fun {b} n1 n2=>by
   cases q:H b with
   |none=>rfl
   |some u=>rcases hA b (by rw[q];simp)with z | z <;> contradiction
  have noA:∀ {b:Addr}{o:Obj},s₁.heap.get? b=some o->(∀ xs n,o.data≠.seq xs n)->(∀ xs,o.data≠.fields xs)->H b=none:=fun {b o} e d1 d2=>by
   refine free (fun z=>?_) (fun z=>?_)
   ·rw[z,ha]at e;cases e;exact d1 _ _ rfl
   ·rw[z,hT]at e;cases e;exact d2 _ rfl
  have nsK:∀ {b:Addr}{m:Str->Option Value},s₁.heap.Ns b m->(hidT s₁.heap H).Ns b m:=fun {b m} ⟨o,es,ep,e,d,r⟩=>⟨o,es,ep,hidT_get e (noA e (fun xs n z=>by rw[d]at z;cases z) fun xs z=>by rw[d]at z;cases z),d,r⟩
  have hKb:K.In (hidT s₁.heap H):=fun b o e=>hidT_get (KX b o e) (by
   cases q:H b with
   |none=>rfl
   |some u =>
    rcases hA b (by rw[q];simp)with z | z
    ·subst z
     rw[hK (by rw[q];simp)]at e;cases e
    ·subst z
     rw[hKT]at e;cases e)
  have hM:Mod K mg (hidT s₁.heap H):=⟨hKb,nsK hns,⟨mb,nsK hb,hbb⟩,let ⟨mc,h1,h2⟩:=hlim;⟨mc,nsK h1,h2⟩⟩
  have hBb:(hidT s₁.heap H).BuiltinsAt mg T:=by
   obtain⟨bm,ob,b1,b2,b3,b4,b5,b6,b7,b8⟩:=hB
   exact⟨bm,ob,b1,b2,b3,b4,hidT_get b5 (noA b5 (fun xs n z=>by rw[b8]at z;cases z) fun xs z=>by rw[b8]at z;cases z),b6,b7,b8⟩
  have e0:Env0 P w K mg (hidT s₁.heap H) callerA [] s₁ H:=⟨rfl,hM,fun b o e=>of_hidT e,Nat.le_of_eq (hidT_size _ _),trivial,fun b hb=>absurd (show b∈([]:List Addr)from hb) (by simp),hok,.of_eq hg⟩
  refine codeAny_mono ((F _ hKb (nsK hns) hBb).run callerA [] s₁ H ⟨[.ref a],[]⟩ [.ref a] [.ref a] _ _ hr e0 (hbind s₁ (.ref a)) (.cons rfl .nil) (hsp H hO hS)) fun r s' h=>?_
  cases r with
  |error e=>exact h.elim
  |ok fl =>
   cases fl with
   |next=>exact False.elim h
   |brk=>exact False.elim h
   |cont=>exact False.elim h
   |ret u =>
    obtain⟨v,H',os,bare,un,hok',r',q⟩:=h
    have q':v = .bl true:=q
    subst q'
    obtain rfl:u=Value.bool true:=r'
    have noe:∀ b:Addr,b∉frs []:=fun b z=>absurd (show b∈([]:List Addr)from z) (by simp)
    obtain⟨more,eT⟩:=un.tbls T #[] hO.1
    have gT:s'.heap.get? T=some (tabObj (#[]++more)):=hok' T _ eT
    have kept:∀ b o,b≠T->s₁.heap.get? b=some o->s'.heap.get? b=some o:=fun b o n e=>by
     cases qb:H b with
     |none=>exact un.keep b o e qb (noe b) (by simp)
     |some u' =>
      rcases hO.2 b n with z |⟨ob,xs,z⟩
      ·rw[qb]at z;cases z
      ·have z2:=un.frzs b ob _ z
       obtain⟨e1,_⟩:=hok b _ z
       obtain⟨e2,_⟩:=hok' b _ z2
       rw[e]at e1;cases e1
       exact e2
    refine⟨rfl,⟨fun b o e=>?_,fun b o e=>?_⟩,os,bare⟩
    ·by_cases hb':b=T
     ·subst hb'
      rw[hT]at e
      cases e
      exact .inr (.inl ⟨(hC.tab hT).isCodeTable,rfl,#[],more,rfl,gT⟩)
     ·exact .inl (kept b o hb' e)
    ·by_cases hb':b=T
     ·subst hb';exact⟨_,gT⟩
     ·exact⟨o,kept b o hb' e⟩
 cases hk:K.lookup a with
 |some o =>
  have e:=KX a o hk
  rw[ha]at e
  cases e
  refine core (fun b=>if b=T then some (.tbl #[])else none) ⟨if_pos rfl,fun b n=>.inl (if_neg n)⟩ (.inr ⟨_,vs.toArray,_,hk,rfl,rfl,rfl,by rw[List.size_toArray,lenV];exact hl,by simpa using rv⟩) (fun b u z=>?_) (fun b z=>?_) fun z=>absurd (if_neg aT) z
  ·by_cases hb':b=T
   ·have z':=(if_pos hb').symm.trans z
    cases z'
    subst hb'
    exact hT
   ·have z':=(if_neg hb').symm.trans z
    cases z'
  ·by_cases hb':b=T
   ·exact .inr hb'
   ·exact absurd (if_neg hb') z
 |none =>
  refine core (fun b=>if b=T then some (.tbl #[])else if b=a then some (.frz { cls:=.type "list",data:=.seq vs.toArray } (.lst (ns.map V.int)))else none) ⟨if_pos rfl,fun b n=>?_⟩ (.inl (.inr ⟨{ cls:=.type "list",data:=.seq vs.toArray },by show(if a=T then _ else _)=_;rw[if_neg aT,if_pos rfl]⟩)) (fun b u z=>?_) (fun b z=>?_) fun _=>hk
  ·show(if b=T then _ else _)=none\/∃ o xs,(if b=T then _ else _)=_
   rw[if_neg n]
   by_cases hb':b=a
   ·exact .inr ⟨_,_,if_pos hb'⟩
   ·exact .inl (if_neg hb')
  ·by_cases hb':b=T
   ·have z':=(if_pos hb').symm.trans z
    cases z'
    subst hb'
    exact hT
   ·have z1:=(if_neg hb').symm.trans z
    by_cases hba:b=a
    ·have z':=(if_pos hba).symm.trans z1
     cases z'
     subst hba
     exact⟨ha,by rw[List.length_map];exact hl,vs,_,rv,ha⟩
    ·have z':=(if_neg hba).symm.trans z1
     cases z'
  ·by_cases hb':b=T
   ·exact .inr hb'
   ·by_cases hba:b=a
    ·exact .inl hba
    ·exact absurd (by show(if b=T then _ else _)=none;rw[if_neg hb',if_neg hba]) z
theorem walk_ofT{l:PySem.W.OpenLaw}{n k:Nat}{q:Program}{loose:List Str}{XP:(Str->Option Value)->Heap->Prop}{YP:World->Heap->Prop}{d:DefRec}{K:Params->PySem.W.Frag}{sp:World->Sp}{x:Str}{c T:Addr}
  (hn:l.most=some n) (hn2:n<=sizeLine) (hdf:d.params.defaults=[]) (hr:Room k callerA)
  (hY:∀ (w:World) (h:Heap),YP w h->(K w.params).In h/\h.get? T=some (tabObj #[]))
  (F:∀ (w:World) (mg:Str->Option Value) (fa:Addr) (h:Heap),(K w.params).In h->h.Ns mainGlobals mg->mg d.name=some (.ref fa) ->
   codeHdIn (K w.params) c T=true/\(K w.params).lookup T=none/\∃ fd:FuncData,(∀ (s:Shared) (u:Value),BindsTo s fd ⟨[u],[]⟩ [(x,u)]) /\
    ∀ base:Heap,(K w.params).In base->base.Ns mainGlobals mg->base.BuiltinsAt mg T->FnOk l.prog w (K w.params) mg base CX0 k fa fd [x] (sp w))
  (hsp:∀ (w:World) (H:Hp) (a:Addr) (ns:List Int),ns.length<=n->OnlyT T H->SqL (K w.params) H a (ns.map V.int)->sp w [.ref a] H (fun v _=>v = .bl true) fun _ _ _=>False) :
  PySem.W.WalkO q loose XP YP l.row.toRowW d [] (fun f vs=>PySem.call f vs):=by
 refine Att.attach_call hn hdf fun w s₀ s₁ mg mb fa o pm cd doc a vs ns G Y ho hd hcd hmg hobj hints hlen hg=>?_
 obtain⟨KX,hT⟩:=hY w _ Y
 obtain⟨hc,hKT,fd,hb,hF⟩:=F w mg fa _ KX G.T.g hmg
 have hC:=codeHd_of_K KX hc
 have hB:s₁.heap.BuiltinsAt mg T:=by
  obtain⟨bm,ob,b1,b2,b3,b4,b5,b6⟩:=G.T.bmain
  refine⟨bm,ob,b1,b2,fun z=>?_,fun z=>?_,b3,b4,b5,b6⟩
  ·obtain⟨o',es,ep,e,d',_⟩:=G.T.g
   rw[z,e]at b3;cases b3;rw[d']at b6;cases b6
  ·rw[z,hT]at b3;cases b3;cases b4
 exact law_callT KX G.T.g G.T.b G.T.builtins G.T.nolimit hg hobj hints (Nat.le_trans hlen hn2) hr hT hC hKT hB hF hb fun H hO hS=>hsp w H a ns hlen hO hS
open PySem PySem.W PyProof.Rows Srt
end L2
namespace K19
open PySem L2 PyProof.Rows
theorem tieLt_pairs{ties:List Tie}(h:ties.Pairwise tieLt):(ties.map pairOf).Pairwise (fun x y=>Srt.lexlt x y=true):=by
 rw[List.pairwise_map]
 exact h
noncomputable def kvOf(x:Tie):List Key×V:=([Sum.inl x.1,Sum.inl x.2.1],V.int x.2.2)
noncomputable def wOf(ties:List Tie)(k:List Int):Int:=((ties.find? fun x=>decide (pairOf x=k)).map (·.2.2)).getD 0
theorem keys_inj{x y:Tie}(h:(kvOf x).1=(kvOf y).1):pairOf x=pairOf y:=by
 have h':([Sum.inl x.1,Sum.inl x.2.1]:List Key)=[Sum.inl y.1,Sum.inl y.2.1]:=h
 simp only[List.cons.injEq,Sum.inl.injEq,and_true]at h'
 show [x.1,x.2.1]=[y.1,y.2.1]
 rw[h'.1,h'.2]
theorem pairs_nodup{ties:List Tie}(h:ties.Pairwise tieLt):(ties.map pairOf).Nodup:=(tieLt_pairs h).imp fun {x y} z e=>by rw[e,Srt.lexlt_irrefl]at z;cases z
theorem val_of{ties:List Tie}{k:List Int}(h:k∈ties.map pairOf):valV (ties.map kvOf) (k.map Sum.inl)=some (V.int (wOf ties k)):=by
 induction ties with
 |nil=>cases h
 |cons x ties ih =>
  by_cases e:pairOf x=k
  ·have e1:(kvOf x).1=k.map Sum.inl:=by rw[<- e];rfl
   rw[List.map_cons,valV_pos e1]
   unfold wOf
   rw[List.find?_cons_of_pos (by simp[e])]
   rfl
  ·have e1:¬(kvOf x).1=k.map Sum.inl:=fun z=>e (inl_inj (show(pairOf x).map (Sum.inl:Int->Key)=k.map Sum.inl from z))
   rw[List.map_cons,valV_neg e1,ih (by
    rw[List.map_cons]at h
    rcases List.mem_cons.mp h with z | z
    ·exact absurd z.symm e
    ·exact z)]
   unfold wOf
   rw[List.find?_cons_of_neg (by simp[e])]
noncomputable def keyOf(ties:List Tie)(k:List Int):List Int:=-(wOf ties k) :: k
structure IsOrd(ties:List Tie)(ks os:List (List Int)):Prop where
 perm:os.Perm ks
 pw:os.Pairwise fun x y=>Srt.lexlt (keyOf ties y) (keyOf ties x)=false
theorem IsHeads.same{n:Nat}{ties:List Tie}{hs:List Int}(h:IsHeads n ties hs){a b:Int}(a0:0<=a)(a1:a<n)(b0:0<=b)(b1:b<n)(r:Rch ties a b):hAt hs a=hAt hs b:=by
 have h1:=h.least a a0 a1 _ (r.trans (h.rch b b0 b1))
 have h2:=h.least b b0 b1 _ (r.symm.trans (h.rch a a0 a1))
 lia
theorem least_ex{ties:List Tie}{n:Nat}(ok:∀ x∈ties,TieOk n x):∀ (m:Nat) (i h:Int),h.toNat=m->0<=i->i<n->0<=h->Rch ties i h->∃ h',Rch ties i h'/\∀ j,Rch ties i j->h'<=j:=by
 intro m
 induction m using Nat.strongRecOn with
 | _ m ih =>
  intro i h e i0 i1 h0 r
  by_cases z:∃ j,Rch ties i j/\j<h
  ·obtain⟨j,rj,lt⟩:=z
   obtain⟨j0,_⟩:=rj.range ok i0 i1
   exact ih j.toNat (by lia) i j rfl i0 i1 j0 rj
  ·exact⟨h,r,fun j rj=>Classical.byContradiction fun c=>z ⟨j,rj,by lia⟩⟩
theorem heads_ex{ties:List Tie}{n:Nat}(ok:∀ x∈ties,TieOk n x):∃ hs,IsHeads n ties hs:=by
 have ch:∀ i:Fin n,∃ h':Int,Rch ties i.1 h'/\∀ j,Rch ties i.1 j->h'<=j:=fun i=>least_ex ok _ i.1 i.1 rfl (by lia) (by have:=i.2;omega) (by lia) (.refl _)
 refine⟨List.ofFn fun i:Fin n=>(ch i).choose,⟨List.length_ofFn ..,fun i i0 i1=>?_,fun i i0 i1 j r=>?_⟩⟩
 all_goals
  obtain⟨i,rfl⟩:∃ a:Nat,i=(a:Int):=⟨i.toNat,by lia⟩
  have hi:i<n:=by lia
  rw[hAt_nat (by rw[List.length_ofFn];exact hi),List.getElem_ofFn]
 ·exact(ch ⟨i,hi⟩).choose_spec.1
 ·exact(ch ⟨i,hi⟩).choose_spec.2 j r
theorem parted_iff{hs ps:List Int}:parted hs ps=true↔(ps.map (hAt hs)).Nodup:=by
 unfold parted
 rw[decide_eq_true_eq,<- nub_len,List.length_map]
open Classical in
noncomputable def pB(n:Nat)(ties:List Tie)(ps:List Int)(ks:List (List Int)):Bool:=decide (∃ hs,IsHeads n (rest ties ks) hs/\parted hs ps=true)
open Classical in
theorem pB_eq{n:Nat}{ties:List Tie}{ps hs:List Int}{ks:List (List Int)}(h:IsHeads n (rest ties ks) hs):parted hs ps=pB n ties ps ks:=by
 unfold pB
 cases e:parted hs ps with
 |true=>exact(decide_eq_true ⟨hs,h,e⟩).symm
 |false =>
  refine(decide_eq_false ?_).symm
  rintro⟨gs,g,e'⟩
  rw[g.uniq h,e]at e'
  cases e'
theorem rest_ok{n:Nat}{ties:List Tie}{ks:List (List Int)}(ok:∀ x∈ties,TieOk n x):∀ x∈rest ties ks,TieOk n x:=fun x hx=>ok x (mem_rest.mp hx).1
noncomputable def fewer(st:List (List Int))(k:List Int):List (List Int):=st.filter fun o=>!decide (o=k)
noncomputable def stepP(n:Nat)(ties:List Tie)(ps:List Int)(st:List (List Int))(k:List Int):List (List Int):=if pB n ties ps (fewer st k)=true then fewer st k else st
noncomputable def prune(n:Nat)(ties:List Tie)(ps:List Int)(os ks:List (List Int)):List (List Int):=os.foldl (stepP n ties ps) ks
section
variable{n:Nat}{ties:List Tie}{ps:List Int}
theorem step_sub(st:List (List Int))(k:List Int):(stepP n ties ps st k).Sublist st:=by
 unfold stepP
 split
 ·exact List.filter_sublist
 ·exact List.Sublist.refl _
theorem prune_sub:∀ (os ks:List (List Int)),(prune n ties ps os ks).Sublist ks
 |[],ks=>List.Sublist.refl _
 |k :: os,ks=>(prune_sub os (stepP n ties ps ks k)).trans (step_sub ks k)
theorem prune_snoc(os ks:List (List Int))(k:List Int):prune n ties ps (os++[k]) ks=stepP n ties ps (prune n ties ps os ks) k:=by
 unfold prune
 rw[List.foldl_append]
 rfl
theorem prune_parts:∀ (os ks:List (List Int)),pB n ties ps ks=true->pB n ties ps (prune n ties ps os ks)=true
 |[],ks,h=>h
 |k :: os,ks,h=>prune_parts os _ (by
  unfold stepP
  split
  ·assumption
  ·exact h)
end
end K19
namespace L2
open PySem PySem.W PyProof.Rows Srt
inductive rNeTTI(x:V)(y:V)(H:Hp)(Q:VK):Prop where
 |mk (a b:Addr) (ns ms:List Int) (h1:x = .ref a) (h2:y = .ref b) (h3:H a=some (.tup (ns.map V.int))) (h4:H b=some (.tup (ms.map V.int))) (h5:Q (.bl (!decide (ns=ms))) H)
noncomputable def rNeTT:R2:=fun x y H Q=>rNeTTI x y H Q
theorem op_neTT{X:Cx}(hu:X.A.units<cLine):OpR X (compareOp .NotEq) rNeTT:=by
 intro pins s σ H x y v u Q I rx ry h
 obtain⟨a,b,ns,ms,rfl,rfl,ha,hb,q⟩:=h
 cases rx
 cases ry
 obtain⟨its,r,pl,hz⟩:=I.tuple (SqT.of (K:=X.K) ha)
 obtain⟨its',r',pl',hz'⟩:=I.tuple (SqT.of (K:=X.K) hb)
 have l1:=r.length
 have l2:=r'.length
 rw[List.length_map]at l1 l2
 refine SeqAt.RcNeAt.tuples (show s.heap.IsTuple a its.toArray from pl) (show s.heap.IsTuple b its'.toArray from pl') hu (e:=fun j=>decide (ns[j]?=ms[j]?)) (eqAt_ints r r') _ _ _ _ ?_
 have fin:((List.range (min its.toArray.size its'.toArray.size)).all (fun j=>decide (ns[j]?=ms[j]?)) && its.toArray.size == its'.toArray.size)=decide (ns=ms):=by
  rw[Bool.eq_iff_iff,Bool.and_eq_true,List.all_eq_true,decide_eq_true_eq,beq_iff_eq,List.size_toArray,List.size_toArray]
  constructor
  ·rintro⟨h1,h2⟩
   apply List.ext_getElem?
   intro i
   by_cases hi:i<ns.length
   ·exact of_decide_eq_true (h1 i (List.mem_range.mpr (by lia)))
   ·rw[List.getElem?_eq_none (by lia),List.getElem?_eq_none (by lia)]
  ·rintro rfl
   exact⟨fun i _=>decide_eq_true rfl,by lia⟩
 rw[fin]
 exact⟨.bl _,H,I,rfl,q⟩
theorem TabH.ne{B:Addr}{pos:Pos}{q:Str}{H:Hp}(t:TabH B pos q H){a:Addr}{o:HO}(h:H a=some o)(no:∀ ps,o≠.tbl ps):a≠B:=fun z=>by
 rcases t with t |⟨_,t,_⟩ <;> rw[z,t]at h <;> exact no _ (Option.some.inj h).symm
end L2
namespace K19
open PySem L2 PyProof.Rows
inductive spTWI(vs:List V)(H:Hp)(Q:VK):Prop where
 |mk (t:Addr) (n:Nat) (ties:List Tie) (h1:vs=[.ref t]) (h2:WebAt H t n ties) (h3:ties.Pairwise tieLt) (h4:∀ (d:Addr) (H':Hp),H d=none->Same H H'->H' d=some (.dT (ties.map kvOf))->Q (.ref d) H')
noncomputable def spTW:Sp:=fun vs H Q _=>spTWI vs H Q
noncomputable abbrev lamPos:Pos:=⟨101,32,101,64⟩
noncomputable abbrev lamQ:Str:=("pruned":Str)++".<locals>."++"<lambda>"
inductive spWOI(K:PySem.W.Frag)(vs:List V)(H:Hp)(Q:VK):Prop where
 |mk (t c:Addr) (n:Nat) (ties:List Tie) (ks:List (List Int)) (h1:vs=[.ref t,.ref c]) (h2:WebAt H t n ties) (h3:ties.Pairwise tieLt) (h4:CutIn K H c ks) (h5:(∀ k∈ks,k∈ties.map pairOf)) (h6:∀ H',Same H H'->Q (.int (ks.map (wOf ties)).sum) H')
noncomputable def spWO(K:PySem.W.Frag):Sp:=fun vs H Q _=>spWOI K vs H Q
inductive spPrI(B:Addr)(vs:List V)(H:Hp)(Q:VK):Prop where
 |mk (t q c:Addr) (n:Nat) (ties:List Tie) (b e:Bool) (ps:List Int) (as:List Addr) (ks:List (List Int)) (h1:vs=[.ref t,.ref q,.ref c]) (h2:WebAt H t n ties) (h3:(∀ x∈ties,TieOk n x)) (h4:ties.Pairwise tieLt) (h5:n<=1000) (h6:H q=some (sqO b (ps.map V.int))) (h7:(∀ x∈ps,0<=x/\x<n)) (h8:ps.length<=1000) (h9:H c=some (sqO e (as.map V.ref))) (h10:TupsAt H as ks) (h11:(∀ k∈ks,k∈ties.map pairOf)) (h12:ks.length<=60) (h13:TabH B lamPos lamQ H) (h14:∀ (l:Addr) (bs:List Addr) (os:List (List Int)) (H':Hp),H l=none->H' l=some (.lst (bs.map V.ref))->TupsAt H' bs (prune n ties ps os ks)->IsOrd ties ks os->BytP B H H'->TabH B lamPos lamQ H'->Q (.ref l) H')
noncomputable def spPr(B:Addr):Sp:=fun vs H Q _=>spPrI B vs H Q
theorem zip_tail(ties:List Tie):∀ (ks:List (List Int)) (as:List Addr),as.length=ks.length->(((ks.map (keyOf ties)).zip as).map fun z=>z.1.tail)=ks
 |[],as,_=>by cases as <;> rfl
 |k :: ks,[],h=>by cases h
 |k :: ks,a :: as,h=>by
  rw[List.map_cons,List.zip_cons_cons,List.map_cons,zip_tail ties ks as (by simpa using h)]
  rfl
theorem zip_mem{H:Hp}{ties:List Tie}{as:List Addr}{ks:List (List Int)}(h:TupsAt H as ks):∀ z∈(ks.map (keyOf ties)).zip as,z.1=keyOf ties z.1.tail/\H z.2=some (.tup (z.1.tail.map V.int)):=by
 induction h with
 |nil=>intro z hz;cases hz
 |cons r _ ih =>
  intro z hz
  rw[List.map_cons,List.zip_cons_cons]at hz
  rcases List.mem_cons.mp hz with e | e
  ·subst e
   exact⟨rfl,r⟩
  ·exact ih z e
theorem zs_ord{H:Hp}{ties:List Tie}{as:List Addr}{ks:List (List Int)}(h:TupsAt H as ks){zs:List (List Int×Addr)}(pz:zs.Perm ((ks.map (keyOf ties)).zip as))(pw:zs.Pairwise fun x y=>Srt.lexlt y.1 x.1=false):IsOrd ties ks (zs.map fun z=>z.1.tail):=by
 refine⟨?_,?_⟩
 ·have:=pz.map fun z=>z.1.tail
  rw[zip_tail ties ks as (tups_len h)]at this
  exact this
 ·rw[List.pairwise_map]
  refine List.Pairwise.imp_of_mem (fun {a b} ha hb z=>?_) pw
  rw[<-(zip_mem h b (pz.mem_iff.mp hb)).1,<-(zip_mem h a (pz.mem_iff.mp ha)).1]
  exact z
theorem sqO_no{b:Bool}{xs:List V}(ps:Array Value):sqO b xs≠.tbl ps:=by
 cases b <;> exact fun z=>by cases z
theorem WebAt.byt{B:Addr}{pos:Pos}{q:Str}{H H':Hp}{t:Addr}{n:Nat}{ties:List Tie}(W:WebAt H t n ties)(TB:TabH B pos q H)(k:BytP B H H'):WebAt H' t n ties:=by
 have np:∀ {x:Addr}{xs:List V},H x=some (.tup xs)->H' x=some (.tup xs):=fun {x xs} h=>k _ _ (TB.ne h fun ps z=>by cases z) h
 obtain⟨⟨ts,as,h1,h2,h3⟩,l⟩:=W
 exact⟨⟨ts,as,np h1,np h2,Paired.mapP h3 fun _ _ z=>np z⟩,l⟩
theorem tups_byt{B:Addr}{pos:Pos}{q:Str}{H H':Hp}{as:List Addr}{ks:List (List Int)}(h:TupsAt H as ks)(TB:TabH B pos q H)(k:BytP B H H'):TupsAt H' as ks:=Paired.mapP h fun _ _ z=>k _ _ (TB.ne z fun ps y=>by cases y) z
theorem sqB_of{b:Bool}{K:PySem.W.Frag}{H:Hp}{a:Addr}{xs:List V}(h:H a=some (sqO b xs)):SqB b K H a xs:=by
 cases b
 ·exact SqL.of h
 ·exact SqT.of h
section
variable{P:Program}{w:World}{K:PySem.W.Frag}{mg:Str->Option Value}{base:Heap}
theorem scTW:FnScope ["web"] ["web"] (defScope sTieWeights):=⟨rfl,rfl,rfl,by decide +kernel,rfl,by decide +kernel,by decide +kernel⟩
theorem csTW:CompScope ["a","b","weight"] [none,none,none] ["web"] (defScope sTieWeights) (scO [(".0",.local),("a",.local),("b",.local),("weight",.local)]):=⟨rfl,by decide +kernel,by decide +kernel,by decide +kernel,rfl,capB_ok (by decide +kernel)⟩
theorem ndTW:(["a","b","weight"]:List Str).Nodup:=by decide +kernel
theorem ok_tw{f:Addr}{fd:FuncData}(F:Fun K "tie_weights" "tie_weights" sTieWeights f fd):FnOk P w K mg base CX0 1 f fd ["web"] spTW:=by
 refine F.ok scTW (fun vs H Q E h=>?_) (fun cdv A outer s H vs Q E hr h=>?_)
 ·obtain⟨t,n,ties,rfl,_⟩:=h
  rfl
 ·obtain⟨t,n,ties,rfl,W,pw,q⟩:=h
  obtain⟨⟨ts,as,h1,h2,h3⟩,len⟩:=id W
  have h3l:as.length=ties.length:=h3.length
  have hu:_<cLine:=hr.units0
  refine⟨_,pss_one (ps_ret (pe_dcomp true hu rfl csTW (pi_tup (pe_ix ix_tup (pv 0) pe_int (fun _ _=>rfl)))
   (fun C s H fp=>pg_tupK K rfl (n:=3) rfl (pgs_cons (pg_name (i:=0) ndTW rfl (Or.inl rfl)) (pgs_cons (pg_name (i:=1) ndTW rfl (Or.inl rfl)) (pgs_cons (pg_name (i:=2) ndTW rfl (Or.inl rfl)) pgs_nil))) rfl rfl)
   (fun C s H fp=>pf_nil) (fun C s H fp=>@pe_tup _ _ _ _ _ (@pa_nam _ _ _ _ _ _ (pv 0) (@pa_nam _ _ _ _ _ _ (pv 1) pa_nil))) (fun C s H fp=>pv 2))),?_⟩
  refine⟨_,rfl,t,_,_,_,rfl,rfl,SqT.of h1,rfl,ts,rfl,⟨_,SqT.of h2⟩,fun D hD=>?_⟩
  refine dcomp_tup (K:=K) (a:=ts) (xs:=as.map V.ref) (fun i G=>Same H G/\G D=some (.dT ((ties.take i).map kvOf))) ⟨Same.new hD,upd_same⟩ (fun i G _ z=>z.1.tupq (SqT.of h2)) ?_ ?_
  ·rintro i x G hx ⟨sm,gD⟩
   obtain⟨il,e⟩:=List.getElem?_eq_some_iff.mp hx
   rw[List.length_map]at il
   rw[List.getElem_map]at e
   subst e
   have it:i<ties.length:=by lia
   have hx:=sm _ _ (Paired.at h3 i il it)
   refine⟨as[i],_,rfl,SqT.of hx,rfl,_,_,rfl,_,_,rfl,_,_,rfl,rfl,trivial,tTru_if ⟨_,rfl,_,rfl,(by show 2<=sizeLine;decide),fun tp htp=>⟨_,rfl,?_⟩⟩⟩
   have gD2:(upd G tp (.tup [V.int ties[i].1,V.int ties[i].2.1])) D=some (.dT ((ties.take i).map kvOf)):=(Same.new htp) _ _ gD
   refine⟨_,DPut.t (k:=[Sum.inl ties[i].1,Sum.inl ties[i].2.1]) gD2 upd_same (by rw[List.length_map,List.length_take,sizeLine_eq];lia),?_,?_⟩
   ·exact fun b o e=>by
     have n1:b≠D:=ne_of_none e hD
     rw[upd_ne n1]
     exact(sm.trans (Same.new htp)) _ _ e
   ·rw[upd_same,List.take_succ_eq_append_getElem it,List.map_append,putK_new]
    ·rfl
    ·refine valV_no fun z=>?_
     rw[List.map_map]at z
     obtain⟨y,hy,e⟩:=List.mem_map.mp z
     have pe:pairOf y=pairOf ties[i]:=keys_inj e
     obtain⟨j,hj,ej⟩:=List.getElem_of_mem hy
     rw[List.length_take]at hj
     rw[List.getElem_take]at ej
     have lt:=List.pairwise_iff_getElem.mp (tieLt_pairs pw) j i (by rw[List.length_map];lia) (by rw[List.length_map];omega) (by lia)
     rw[List.getElem_map,List.getElem_map,ej,pe,Srt.lexlt_irrefl]at lt
     cases lt
  ·rintro G ⟨sm,gD⟩
   rw[List.take_of_length_le (by rw[List.length_map,h3l];exact Nat.le_refl _)]at gD
   exact q D G hD sm gD
noncomputable abbrev nPr:List Str:=["web","posts","cut","weights","staying","pair","fewer"]
theorem scPr:FnScope nPr ["web","posts","cut"] (defScope sPruned):=⟨rfl,rfl,rfl,by decide +kernel,rfl,by decide +kernel,by decide +kernel⟩
theorem csPr1:CompScope ["other","pair"] [none,some 5] nPr (defScope sPruned) (scO [(".0",.local),("other",.local),("pair",.free)]):=⟨rfl,by decide +kernel,by decide +kernel,by decide +kernel,rfl,capB_ok (by decide +kernel)⟩
theorem ndPr1:(["other","pair"]:List Str).Nodup:=by decide +kernel
theorem csLam:CompScope ["tie","weights"] [none,some 3] nPr (defScope sPruned) (scO [("tie",.local),("weights",.free)]):=⟨rfl,by decide +kernel,by decide +kernel,by decide +kernel,rfl,capB_ok (by decide +kernel)⟩
theorem ndLam:(["tie","weights"]:List Str).Nodup:=by decide +kernel
noncomputable abbrev lamArgs:Arguments:={ posonlyargs:=[],args:=[{ arg:="tie",annotation:=none,pos:=⟨101,39,101,42⟩:PySem.Arg }],vararg:=none,kwonlyargs:=[],kw_defaults:=[],kwarg:=none,defaults:=[] }
theorem bindLam(u:Value)(fd:FuncData)(h1:fd.params=lamArgs)(h2:fd.defaults = .none)(h3:fd.kwdefaults = .none):bindArgs fd ⟨[u],[]⟩=pure [(("tie":Str),u)]:=by
 cases fd
 cases h1
 cases h2
 cases h3
 rfl
theorem ok_pr{f g1 g2 c B:Addr}{fd d1 d2:FuncData}(F:Fun K "pruned" "pruned" sPruned f fd)(T:Txt mg)(hc:fd.code = .ref c)(hd:PySem.W.CodeHd base c B)(hB:base.BuiltinsAt mg B)(GT:CalF P w K mg base 1 "tie_weights" ["web"] spTW g1 d1)(GI:CalF P w K mg base 3 "is_parting" ["web","posts","cut"] (spIP K) g2 d2):FnOk P w K mg base CX0 4 f fd ["web","posts","cut"] (spPr B):=by
 refine F.okC scPr (fun vs H Q E h=>?_) (fun cdv A outer s H vs Q E hcd hr h=>?_)
 ·obtain⟨t,q,c,n,ties,b,e,ps,as,ks,rfl,_⟩:=h
  rfl
 ·obtain⟨t,q,c0,n,ties,b,e,ps,as,ks,rfl,W,ok,pw,nb,gq,rg,pl,gc,tc,sub,kl,TB,fin⟩:=h
  have hr3:Room 3 _:=hr
  have hr1:Room 1 _:=hr.mono (by decide)
  have hu:_<cLine:=hr.units0
  have LC:LamCx (cxOf CX0 P w K mg base nPr "pruned" (defScope sPruned) f cdv A outer s H E).nox c B:=⟨hcd.symm.trans hc,hd,hB⟩
  refine⟨_,(pss_cons (ps_set (i:=3) scPr.nd rfl (Or.inr rfl) (pe_call GT.ok hr1 rfl GT.mg GT.kp GT.bd .nil pass0 (@pa_nam _ _ _ _ _ _ (pv 0) pa_nil)))
   (pss_cons (ps_set (i:=4) scPr.nd rfl (Or.inl rfl) (pe_callTy (call_listH e) (by rfl) T.list boot_list (@pa_nam _ _ _ _ _ _ (pv 2) pa_nil)))
   (pss_cons (ps_for PassesOwn.never rfl (pi_list (pe_sortKey hr3 LC csLam (by rfl) T.sorted (@pa_nam _ _ _ _ _ _ (pv 2) pa_nil) (fun A1 f1 c1 s1 H1 hrL=>@pe_tup _ _ _ _ _ (@pa_un _ _ _ _ _ _ _ (pe_un un_neg (pe_dget (hu_of hrL) (pv 1) (pv 0) (fun _ _=>rfl))) (@pa_nam _ _ _ _ _ _ (pv 0) pa_nil))) bindLam rfl rfl rfl ndLam)) (pg_name (i:=5) scPr.nd rfl (Or.inr rfl))
   (pss_cons (ps_comp (i:=6) scPr.nd rfl (Or.inl rfl) rfl csPr1 (pi_list (pv 4)) (fun C s H fp=>(pg_name (i:=0) ndPr1 rfl (Or.inl rfl))) (fun C s H fp=>(pf_one (pt_cmpR (op_neTT hu) (pv 0) (pv 1) (nomark _)))) (fun C s H fp=>(pv 0)))
   (pss_one (ps_if (pt_val (pe_call GI.ok hr3 rfl GI.mg GI.kp GI.bd .nil pass0 (@pa_nam _ _ _ _ _ _ (pv 0) (@pa_nam _ _ _ _ _ _ (pv 1) (@pa_nam _ _ _ _ _ _ (pv 6) pa_nil))))) (pss_one (ps_set (i:=4) scPr.nd rfl (Or.inl rfl) (pv 6))) pss_nil))))
   (pss_one (ps_ret (pv 4)))))),?_⟩
  have ll:=tups_len tc
  refine⟨_,rfl,t,n,ties,rfl,W,pw,fun d H1 hd1 s1 gd=>?_⟩
  refine⟨_,rfl,c0,_,rfl,s1 _ _ gc,fun st hst=>?_⟩
  have s2:=Same.new (o:=.lst (as.map V.ref)) hst
  have hst0:H st=none:=s1.free hst
  have gst:(upd H1 st (.lst (as.map V.ref))) st=some (.lst (as.map V.ref)):=upd_same
  have s02:=s1.trans s2
  have gd2:=s2 _ _ gd
  generalize (upd H1 st (.lst (as.map V.ref)))=H2 at gst s02 gd2
  have TB2:TabH B lamPos lamQ H2:=TB.same s02
  have gc2:=s02 _ _ gc
  have tc2:TupsAt H2 as ks:=Paired.mapP tc fun _ _ z=>s02 _ _ z
  clear s2 s1 hst gd hd1
  refine⟨_,rfl,c0,e,as,ks.map (keyOf ties),rfl,gc2,by lia,by rw[List.length_map];lia,TB2,fun H3 byt fre=>⟨fun i hi G sG=>?_,fun l zs H4 TB4 s34 hl pz pwz=>?_⟩⟩
  ·have hk:i<ks.length:=by lia
   have a1:=sG _ _ (tups_at (tups_byt tc2 TB2 byt) i hi hk)
   have g1:=sG _ _ (byt _ _ (TB2.ne gd2 fun ps z=>by cases z) gd2)
   have g0:DGet G d (V.ref as[i]) (valV (ties.map kvOf) (ks[i].map Sum.inl)):=DGet.t g1 (by rw[a1,List.map_map];rfl)
   rw[val_of (sub _ (List.getElem_mem hk))]at g0
   refine⟨_,rfl,_,rfl,d,_,rfl,g0,_,rfl,_,rfl,(by show 2<=sizeLine;decide),fun tp htp=>?_⟩
   have s3:=Same.new (o:=.tup [V.int (-(wOf ties ks[i])),V.ref as[i]]) htp
   exact⟨s3,tp,keyOf ties ks[i],rfl,by rw[List.getElem?_map,List.getElem?_eq_getElem hk];rfl,as[i],_,ks[i],upd_same,s3 _ _ a1,rfl⟩
  ·have tc4:TupsAt H4 as ks:=Paired.mapP (tups_byt tc2 TB2 byt) fun _ _ z=>s34 _ _ z
   have s5:=Same.new (o:=.lst (zs.map fun z=>V.ref z.2)) hl
   have b45:BytP B H (upd H4 l (.lst (zs.map fun z=>V.ref z.2))):=(BytP.of s02).trans (byt.trans (BytP.of (s34.trans s5)))
   have TB5:TabH B lamPos lamQ (upd H4 l (.lst (zs.map fun z=>V.ref z.2))):=TB4.same s5
   have tc5:TupsAt (upd H4 l (.lst (zs.map fun z=>V.ref z.2))) as ks:=Paired.mapP tc4 fun _ _ z=>s5 _ _ z
   have gst5:=s5 _ _ (s34 _ _ (byt _ _ (TB2.ne gst fun ps z=>by cases z) gst))
   have gl5:(upd H4 l (.lst (zs.map fun z=>V.ref z.2))) l=some (.lst (zs.map fun z=>V.ref z.2)):=upd_same
   refine⟨l,rfl,⟨_,SqL.of gl5⟩,?_⟩
   have od:=zs_ord tc pz pwz
   have mz:∀ z∈zs,(upd H4 l (.lst (zs.map fun z=>V.ref z.2))) z.2=some (.tup (z.1.tail.map V.int)):=fun z hz=>(zip_mem tc5 z (pz.mem_iff.mp hz)).2
   generalize (upd H4 l (.lst (zs.map fun z=>V.ref z.2)))=H5 at b45 TB5 tc5 gst5 gl5 mz
   have W5:WebAt H5 t n ties:=W.byt TB b45
   have gq5:=b45 _ _ (TB.ne gq sqO_no) gq
   have ozl:(zs.map fun z=>z.1.tail).length=zs.length:=List.length_map _
   have oskl:=od.perm.length_eq
   generalize eos:(zs.map fun z=>z.1.tail)=os at od ozl oskl
   clear s5 hl TB4 s34 tc4 byt fre pz pwz H4 H3 tc2 gc2 TB2 gd2 gst s02
   refine for_list (K:=K) (a:=l) (xs:=zs.map fun z=>V.ref z.2) (fun i σ G=>Ex4 fun(st:Addr) (bs:List Addr) (v5 v6:Option V)=>σ=[some (.ref t),some (.ref q),some (.ref c0),some (.ref d),some (.ref st),v5,v6]/\G st=some (.lst (bs.map V.ref))/\TupsAt G bs (prune n ties ps (os.take i) ks)/\H st=none/\Same H5 G) ⟨st,as,_,_,rfl,gst5,tc5,hst0,Same.refl _⟩ (fun i σ G _ z=>by obtain⟨_,_,_,_,_,_,_,_,s⟩:=z;exact SqL.of (s _ _ gl5)) ?_ ?_
   ·rintro i x σ G hx ⟨st',bs,v5,v6,rfl,gs,tb,hs0,sG⟩
    obtain⟨il,ex⟩:=List.getElem?_eq_some_iff.mp hx
    rw[List.length_map]at il
    rw[List.getElem_map]at ex
    subst ex
    have io:i<os.length:=by lia
    have eo:os[i]=zs[i].1.tail:=by simp[<- eos]
    have gp:=sG _ _ (mz _ (List.getElem_mem il))
    rw[<- eo]at gp
    have bl:=tups_len tb
    have prl:=(prune_sub (n:=n) (ties:=ties) (ps:=ps) (os.take i) ks).length_le
    have epr:prune n ties ps (os.take (i+1)) ks=stepP n ties ps (prune n ties ps (os.take i) ks) os[i]:=by rw[List.take_succ_eq_append_getElem io,prune_snoc]
    have prsub:=(prune_sub (n:=n) (ties:=ties) (ps:=ps) (os.take i) ks)
    generalize prune n ties ps (os.take i) ks=pr at tb bl prl epr prsub
    generalize os[i]=kk at gp epr
    refine⟨_,rfl,st',rfl,⟨_,SqL.of gs⟩,?_⟩
    refine comp_list (K:=K) (a:=st') (xs:=bs.map V.ref) (fun j ys G2=>Same G G2/\∃ cs:List Addr,ys=cs.map V.ref/\TupsAt G2 cs (fewer (pr.take j) kk)) (by rw[List.length_map,sizeLine_eq];lia) ⟨Same.refl _,[],rfl,.nil⟩ (fun j ys G2 _ z=>SqL.of (z.1 _ _ gs)) ?_ ?_
    ·rintro j y ys G2 hy ⟨sG2,cs,rfl,tcs⟩
     obtain⟨jl,ey⟩:=List.getElem?_eq_some_iff.mp hy
     rw[List.length_map]at jl
     rw[List.getElem_map]at ey
     subst ey
     have jp:j<pr.length:=by lia
     have gb:=sG2 _ _ (tups_at tb j jl jp)
     have tk:fewer (pr.take (j+1)) kk=fewer (pr.take j) kk++fewer [pr[j]] kk:=by
      unfold fewer
      rw[List.take_succ_eq_append_getElem jp,List.filter_append]
     refine⟨⟨rfl,trivial⟩,_,rfl,_,rfl,bs[j],zs[i].2,pr[j],kk,rfl,rfl,gb,sG2 _ _ gp,_,rfl,ite2 (fun hc=>?_) (fun hc=>?_)⟩
     ·have e1:fewer [pr[j]] kk=[pr[j]]:=by
       unfold fewer
       rw[List.filter_cons_of_pos (by simpa using hc)]
       rfl
      refine⟨_,rfl,sG2,cs++[bs[j]],by rw[List.map_append];rfl,?_⟩
      rw[tk,e1]
      exact Paired.snoc tcs gb
     ·have e1:fewer [pr[j]] kk=[]:=by
       unfold fewer
       rw[List.filter_cons_of_neg (by simpa using hc)]
       rfl
      refine⟨sG2,cs,rfl,?_⟩
      rw[tk,e1,List.append_nil]
      exact tcs
    rintro ys G2 yl ⟨sG2,cs,rfl,tcs⟩ fw hfw
    rw[List.length_map,bl,List.take_length]at tcs
    have s6:=Same.new (o:=.lst (cs.map V.ref)) hfw
    have gfw:(upd G2 fw (.lst (cs.map V.ref))) fw=some (.lst (cs.map V.ref)):=upd_same
    have sG6:=sG2.trans s6
    have tcs6:TupsAt (upd G2 fw (.lst (cs.map V.ref))) cs (fewer pr kk):=Paired.mapP tcs fun _ _ z=>s6 _ _ z
    have hfwH:H fw=none:=by
     cases ez:H fw with
     |none=>rfl
     |some o =>
      exfalso
      by_cases zb:fw=B
      ·have t2:=(TB5.same sG).same sG2
       rw[zb]at hfw
       rcases t2 with t2 |⟨_,t2,_⟩ <;> rw[t2]at hfw <;> cases hfw
      ·have:=sG2 _ _ (sG _ _ (b45 _ _ zb ez))
       rw[hfw]at this
       cases this
    generalize (upd G2 fw (.lst (cs.map V.ref)))=G3 at gfw sG6 tcs6
    have s53:=sG.trans sG6
    have fl:(fewer pr kk).length<=60:=by
     have:(fewer pr kk).length<=pr.length:=List.length_filter_le _ _
     lia
    refine⟨_,rfl,_,rfl,_,rfl,t,q,fw,n,ties,b,ps,fewer pr kk,rfl,W5.same s53,ok,nb,sqB_of (s53 _ _ gq5),rg,pl,⟨false,cs,SqL.of gfw,tcs6,by lia⟩,fun hs G4 IH s7=>⟨_,rfl,?_⟩⟩
    rw[pB_eq IH]
    have s54:=s53.trans s7
    refine ite2 (fun hc=>?_) (fun hc=>?_)
    ·refine⟨_,rfl,fw,cs,_,_,rfl,s7 _ _ gfw,?_,hfwH,s54⟩
     have e2:stepP n ties ps pr kk=fewer pr kk:=by unfold stepP;rw[if_pos hc]
     rw[epr,e2]
     exact Paired.mapP tcs6 fun _ _ z=>s7 _ _ z
    ·refine⟨st',bs,_,_,rfl,(sG6.trans s7) _ _ gs,?_,hs0,s54⟩
     have e2:stepP n ties ps pr kk=pr:=by unfold stepP;rw[if_neg hc]
     rw[epr,e2]
     exact Paired.mapP tb fun _ _ z=>(sG6.trans s7) _ _ z
   ·rintro σ G ⟨st',bs,v5,v6,rfl,gs,tb,hs0,sG⟩
    rw[List.length_map,<- ozl,List.take_length]at tb
    exact⟨_,rfl,fin st' bs os G hs0 gs tb od (b45.trans (BytP.of sG)) (TB5.same sG)⟩
theorem scWO:FnScope ["web","cut","weights"] ["web","cut"] (defScope sWeightOf):=⟨rfl,rfl,rfl,by decide +kernel,rfl,by decide +kernel,by decide +kernel⟩
theorem csWO:CompScope ["pair","weights"] [none,some 2] ["web","cut","weights"] (defScope sWeightOf) (scO [(".0",.local),("pair",.local),("weights",.free)]):=⟨rfl,by decide +kernel,by decide +kernel,by decide +kernel,rfl,capB_ok (by decide +kernel)⟩
theorem ndWO:(["pair","weights"]:List Str).Nodup:=by decide +kernel
theorem ok_wo{f g:Addr}{fd gd:FuncData}(F:Fun K "weight_of" "weight_of" sWeightOf f fd)(T:Txt mg)(G:CalF P w K mg base 1 "tie_weights" ["web"] spTW g gd):FnOk P w K mg base CX0 2 f fd ["web","cut"] (spWO K):=by
 refine F.ok scWO (fun vs H Q E h=>?_) (fun cdv A outer s H vs Q E hr h=>?_)
 ·obtain⟨t,c,n,ties,ks,rfl,_⟩:=h
  rfl
 ·obtain⟨t,c,n,ties,ks,rfl,W,pw,⟨b,as,sc,tc,lk⟩,inn,q⟩:=h
  have hu:=hu_of hr
  have ll:=tups_len tc
  refine⟨_,pss_cons (ps_set (i:=2) scWO.nd rfl (Or.inr rfl) (pe_call G.ok hr rfl G.mg G.kp G.bd .nil pass0 (@pa_nam _ _ _ _ _ _ (pv 0) pa_nil)))
   (pss_one (ps_ret (pe_callB (call_sum rfl) (by rfl) T.sum boot_sum (@pa_comp _ _ _ _ _ _ _ _ (pe_comp rfl csWO (pi_seq b (pv 1)) (fun C s H fp=>pg_name (i:=0) ndWO rfl (Or.inl rfl)) (fun C s H fp=>pf_nil)
    (fun C s H fp=>pe_dget hu (pv 1) (pv 0) (fun _ _=>rfl))) pa_nil)))),?_⟩
  refine⟨_,rfl,t,n,ties,rfl,W,pw,fun d H1 hd s1 e1=>?_⟩
  refine⟨_,rfl,c,rfl,⟨_,s1.seqB sc⟩,?_⟩
  refine comp_seq (b:=b) (K:=K) (a:=c) (xs:=as.map V.ref) (fun i ys G=>Same H1 G/\ys=((ks.take i).map (wOf ties)).map V.int) (by rw[List.length_map,sizeLine_eq];lia) ⟨Same.refl _,rfl⟩ (fun i ys G _ z=>(s1.trans z.1).seqB sc) ?_ ?_
  ·rintro i x ys G hx ⟨sm,rfl⟩
   obtain⟨il,e⟩:=List.getElem?_eq_some_iff.mp hx
   rw[List.length_map]at il
   rw[List.getElem_map]at e
   subst e
   have hk:i<ks.length:=by lia
   have a1:=(s1.trans sm) _ _ (tups_at tc i il hk)
   have g0:DGet G d (V.ref as[i]) (valV (ties.map kvOf) (ks[i].map Sum.inl)):=DGet.t (sm _ _ e1) (by rw[a1,List.map_map];rfl)
   rw[val_of (inn _ (List.getElem_mem hk))]at g0
   refine⟨⟨rfl,trivial⟩,tTru_if ⟨_,rfl,_,rfl,d,_,rfl,g0,sm,?_⟩⟩
   rw[List.take_succ_eq_append_getElem hk,List.map_append,List.map_append]
   rfl
  ·rintro ys G _ ⟨sm,rfl⟩ D hD
   refine⟨D,(ks.map (wOf ties)),rfl,SqL.of ?_,q _ (s1.trans (sm.trans (Same.new hD)))⟩
   rw[upd_same,List.take_of_length_le (by rw[List.length_map];lia)]
end
end K19
namespace L2
open PySem PySem.W PyProof.Rows
section
variable{M:Model}{A:Around}{E:Value->Shared->Prop}{s:Shared}
theorem newEnv_cell2{scope:Scope}{globals:Addr}{closure:List (Str×Addr)}{qual:Str}{func:Option Addr}{code:Value}{builtins:Addr}{env:Env}{y z:Str}{Q:Env->Shared->Prop}
  (h1:∀ b acc,cellsFrom b scope.names acc=(z,b+1) :: (y,b) :: acc) (h2:∀ h:Heap,pushCells h scope.names=(h.push { cls:=.type "cell",data:=.cell none }).push { cls:=.type "cell",data:=.cell none })
  (hQ:Q (newEnv scope s.heap.objs.size globals ((z,s.heap.objs.size+1+1) :: (y,s.heap.objs.size+1) :: closure) qual func code (some env) builtins) { s with heap:=((s.heap.push { cls:=.type "dict",data:=.dict #[] }).push { cls:=.type "cell",data:=.cell none }).push { cls:=.type "cell",data:=.cell none } }) :
  wpAny M A (newFunctionEnv scope globals closure [] qual func code (some env) builtins) Q E s:=by
 simp only[newFunctionEnv,Option.isSome_some,if_true]
 refine wpAny_bind (wpAny_alloc ?_)
 refine wpAny_bind (wpAny_layCells _ (fun name kind cells=>by cases hkc:kind == NameKind.cell <;> simp[hkc]) _ _ _ _ ?_)
 rw[h1,h2,show({ s with heap:=s.heap.push { cls:=.type "dict",data:=.dict #[] } }:Shared).heap.objs.size=s.heap.objs.size+1 from Heap.size_push ..]
 rw[List.forIn_nil]
 exact wpAny_bind (wpAny_pure (wpAny_pure hQ))
end
noncomputable def cxId(X:Cx)(y z:Str)(N':List Str)(scope:Scope)(C:Addr)(s2:Shared)(H2:Hp)(fp:List Addr):Cx :=
 { X with N:=N',s₀:=s2,H₀:=H2,env:=compEnvC scope ((z,C+1+1) :: (y,C+1) :: closCl X.env.cells scope.names []) C X.env,outer:=X.stack,ex:=fp,fn:=fun x=>decide (x=y) || decide (x=z),xe:=fun _ _=>False }
structure CellScope2(y z:Str)(N':List Str)(cap:List (Option Nat))(N:List Str)(sc0 scope:Scope):Prop where
 kind:scope.kind = .function
 one:∀ b acc,cellsFrom b scope.names acc=(z,b+1) :: (y,b) :: acc
 push:∀ h:Heap,pushCells h scope.names=(h.push { cls:=.type "cell",data:=.cell none }).push { cls:=.type "cell",data:=.cell none }
 only:∀ x∈scope.names,x.2 = .cell->x.1=y\/x.1=z
 own:scope.names.lookup y=some .cell
 own2:scope.names.lookup z=some .cell
 two:(y == z)=false
 loc:∀ x∈scope.names,x.2 = .local->scope.names.lookup x.1=some .local
 fre:∀ x∈scope.names,x.2 = .free->sc0.names.lookup x.1=some .cell\/sc0.names.lookup x.1=some .free
 len:cap.length=N'.length
 cap:∀ j∈List.range cap.length,match cap[j]? with
  |some (some i)=>match N'[j]? with
   |some x=>N[i]?=some x/\scope.names.lookup x=some .free
   |none=>False
  | _=>True
section
variable{X:Cx}{y z:Str}{N':List Str}{cap:List (Option Nat)}{scope:Scope}{C:Addr}{s2 s4:Shared}{H2:Hp}{fp:List Addr}{pins:List (Addr×Obj)}{σ:St}
theorem CellScope2.clos(S:CellScope2 y z N' cap X.N X.env.scope scope)(I:Inv X pins σ H2 s2):∀ x∈scope.names,x.2 = .free->∃ c,X.env.cells.lookup x.1=some c :=
 fun x hx hf=>I.ok.has x.1 (S.fre x hx hf)
theorem csD_sound(S:CellScope2 y z N' cap X.N X.env.scope scope)(I:Inv X pins σ H2 s2){x:Str}{c:Addr}(e:((z,C+1+1) :: (y,C+1) :: closCl X.env.cells scope.names []).lookup x=some c):(C<c/\((x=y/\c=C+1)\/(x=z/\c=C+1+1)))\/X.env.cells.lookup x=some c:=by
 rw[List.lookup_cons]at e
 by_cases k:(x == z)=true
 ·rw[k]at e
  have e:C+1+1=c:=by cases e;rfl
  exact .inl ⟨by rw[<- e];exact Nat.lt_succ_of_lt (Nat.lt_succ_self C),.inr ⟨by simpa using k,e.symm⟩⟩
 ·rw[Bool.eq_false_iff.mpr k,List.lookup_cons]at e
  by_cases z:(x == y)=true
  ·rw[z]at e
   have e:C+1=c:=by cases e;rfl
   exact .inl ⟨by rw[<- e];exact Nat.lt_succ_self C,.inl ⟨by simpa using z,e.symm⟩⟩
  ·rw[Bool.eq_false_iff.mpr z]at e
   exact .inr (closCl_sound _ _ (S.clos I) (fun y c e=>by simp at e) x c e)
theorem csD_old(I:Inv X pins σ H2 s2){x:Str}{c:Addr}(hC:s2.heap.objs.size<=C)(e:X.env.cells.lookup x=some c):¬ C<c:=fun z=>by
 obtain⟨v,q⟩:=I.cell x c e
 have h1:=q.lt
 exact absurd h1 (Nat.not_lt.mpr (Nat.le_trans hC (Nat.le_of_lt z)))
theorem cxId_ok(S:CellScope2 y z N' cap X.N X.env.scope scope)(I:Inv X pins σ H2 s2)(hC:s2.heap.objs.size<=C)(hfp:∀ b∈fp,FpOk X pins H2 b)(hfo:∀ b∈fp,∃ o,s2.heap.get? b=some o):(cxId X y z N' scope C s2 H2 fp).Ok where
 mod:=I.ok.mod
 kind:=S.kind
 glob:=I.ok.glob
 blt:=I.ok.blt
 above:=hC
 inj:=fun x x' c e1 e2=>by
  rcases csD_sound S I e1 with⟨b1,a1⟩ | a1 <;> rcases csD_sound S I e2 with⟨b2,a2⟩ | a2
  ·rcases a1 with⟨a1,c1⟩ |⟨a1,c1⟩ <;> rcases a2 with⟨a2,c2⟩ |⟨a2,c2⟩
   ·rw[a1,a2]
   ·exact absurd (c1.symm.trans c2) (Nat.ne_of_lt (Nat.lt_succ_self _))
   ·exact absurd (c2.symm.trans c1) (Nat.ne_of_lt (Nat.lt_succ_self _))
   ·rw[a1,a2]
  ·exact absurd b1 (csD_old I hC a2)
  ·exact absurd b2 (csD_old I hC a1)
  ·exact I.ok.inj x x' c a1 a2
 has:=fun x h=>by
  have key:∀ k,(x,k)∈scope.names->(k = .cell\/k = .free)->∃ c,((z,C+1+1) :: (y,C+1) :: closCl X.env.cells scope.names []).lookup x=some c:=fun k hk hc=>by
   rw[List.lookup_cons]
   by_cases k2:(x == z)=true
   ·rw[k2];exact⟨_,rfl⟩
   ·rw[Bool.eq_false_iff.mpr k2,List.lookup_cons]
    by_cases z:(x == y)=true
    ·rw[z];exact⟨_,rfl⟩
    ·rw[Bool.eq_false_iff.mpr z]
     rcases hc with e | e
     ·subst e
      rcases S.only _ hk rfl with q | q
      ·exact absurd (by simpa using q) z
      ·exact absurd (by simpa using q) k2
     ·subst e;exact closCl_has _ _ x hk
  rcases h with h | h
  ·obtain⟨k,hk,e |⟨e,_⟩⟩:=relabel_mem (scope:=scope) (l:=scope.names) h
   ·exact key k hk (.inl e)
   ·exact key k hk (.inr e)
  ·obtain⟨k,hk,e |⟨_,e⟩⟩:=relabel_mem (scope:=scope) (l:=scope.names) h
   ·exact key k hk (.inr e)
   ·cases e
 cab:=fun x c h e=>by
  rcases csD_sound S I e with⟨b1,_⟩ | a1
  ·exact Nat.le_trans hC (Nat.le_of_lt b1)
  ·exfalso
   have h:(decide (x=y) || decide (x=z))=true:=h
   have e:((z,C+1+1) :: (y,C+1) :: closCl X.env.cells scope.names []).lookup x=some c:=e
   rw[List.lookup_cons]at e
   by_cases k:(x == z)=true
   ·rw[k]at e
    have e:C+1+1=c:=by cases e;rfl
    exact csD_old I hC a1 (by rw[<- e];exact Nat.lt_succ_of_lt (Nat.lt_succ_self C))
   ·rw[Bool.eq_false_iff.mpr k,List.lookup_cons]at e
    have nz:¬ x=z:=fun q=>k (by simpa using q)
    have xy:x=y:=by
     rw[decide_eq_false nz,Bool.or_false]at h
     exact of_decide_eq_true h
    rw[xy,beq_self_eq_true]at e
    have e:C+1=c:=by cases e;rfl
    exact csD_old I hC a1 (by rw[<- e];exact Nat.lt_succ_self C)
 hd:=I.ok.hd
 frames:=I.ok.frames
 stk:=.inl rfl
 exf:=fun b hb=>⟨fun z=>by
   obtain⟨o,ho⟩:=hfo b hb
   have h1:=Nat.lt_of_lt_of_le (Heap.lt_size ho) hC
   have z:b=C:=z
   rw[z]at h1
   exact Nat.lt_irrefl _ h1,fun x c e=>by
   rcases csD_sound S I e with⟨b1,_⟩ | a1
   ·obtain⟨o,ho⟩:=hfo b hb
    have h1:=Nat.lt_of_lt_of_le (Heap.lt_size ho) hC
    intro z
    rw[<- z]at h1
    exact absurd (Nat.lt_trans h1 b1) (Nat.lt_irrefl _)
   ·exact(hfp b hb).2.2.2.2.1 x c a1⟩
 bs:=I.bs
 bsz:=Nat.le_trans I.ok.bsz I.sz
 noex:=fun b o e hb=>by
  rcases(hfp b hb).2.2.2.1 with z | z
  ·exact I.ok.noex b o e z
  ·exact absurd (Nat.lt_of_lt_of_le (Heap.lt_size e) (Nat.le_trans I.ok.bsz z)) (Nat.lt_irrefl _)
 exfs:=fun b hb z=>by
  rcases List.mem_cons.mp (I.stkSub b z)with e | e
  ·exact(hfp b hb).2.1 e
  ·exact(hfp b hb).2.2.1 e
 funs:=I.stack
 frf:=I.stkFree
theorem cxId_inv(S:CellScope2 y z N' cap X.N X.env.scope scope)(I:Inv X pins σ H2 s2)(hC:s2.heap.objs.size<=C)(hfp:∀ b∈fp,FpOk X pins H2 b)(hfo:∀ b∈fp,∃ o,s2.heap.get? b=some o)
  (ho:s4.os=s2.os) (hg:s4.gens=s2.gens) (k:∀ b o,s2.heap.get? b=some o->s4.heap.get? b=some o) {m:Str->Option Value} (hn:s4.heap.Ns C m) {D:Addr}{oD:Obj}
  (hD:s4.heap.get? D=some oD) (hDs:s2.heap.objs.size<=D) (hDC:D≠C) (hDc:∀ v,oD.data≠.cell v) (hcl:s4.heap.IsCell (C+1) none) (hcl2:s4.heap.IsCell (C+1+1) none) :
  Inv (cxId X y z N' scope C s2 H2 fp) (pins++[(D,oD)]) (capt cap σ) H2 s4 where
 ok:=cxId_ok S I hC hfp hfo
 os:=ho
 bare:=by rw[hg];exact I.bare
 base:=Un.kept k
 loc:=by
  refine⟨m,hn,fun j x v e1 e2 _=>?_⟩
  have hj:j<cap.length:=by rw[S.len];exact(List.getElem?_eq_some_iff.mp e1).1
  have e1:N'[j]?=some x:=e1
  have hc:=S.cap j (List.mem_range.mpr hj)
  unfold capt at e2
  rw[List.getElem?_map]at e2
  cases hq:cap[j]? with
  |none=>rw[hq]at e2;cases e2
  |some o =>
   rw[hq]at e2 hc
   cases o with
   |none=>cases e2
   |some i =>
    simp only[e1]at hc
    obtain⟨hN,hfr⟩:=hc
    have e3:σ[i]?=some (some v):=by
     have e2:(σ[i]?).join=some v:=Option.some.inj e2
     cases hs:σ[i]? with
     |none=>rw[hs]at e2;cases e2
     |some w=>rw[hs]at e2;have e2:w=some v:=e2;rw[e2]
    have hm:=lookup_mem hfr
    have hk:=S.fre _ hm rfl
    obtain⟨m0,hn0,hl0⟩:=I.loc
    obtain⟨u,r,l⟩:=hl0 i x v hN e3 (.inr hk)
    refine⟨u,r,?_⟩
    rcases l with⟨l,_⟩ |⟨_,c,e,zz⟩
    ·rcases hk with hk | hk
     ·rw[show X.env.kindOf x=some .cell from hk]at l;cases l
     ·rw[show X.env.kindOf x=some .free from hk]at l;cases l
    ·obtain⟨c',hc'⟩:=closCl_has (cells:=X.env.cells) scope.names [] x hm
     have hs:=closCl_sound scope.names [] (S.clos I) (fun y c e=>by simp at e) x c' hc'
     rw[e]at hs
     cases hs
     have ny:(x == y)=false:=Bool.eq_false_iff.mpr fun z=>by
      have z:x=y:=by simpa using z
      rw[z,S.own]at hfr
      cases hfr
     have nz:(x == z)=false:=Bool.eq_false_iff.mpr fun k=>by
      have k:x=z:=by simpa using k
      rw[k,S.own2]at hfr
      cases hfr
     refine .inr ⟨relabel_free hfr,c,(by show((z,C+1+1) :: (y,C+1) :: closCl X.env.cells scope.names []).lookup x=some c;rw[List.lookup_cons,nz,List.lookup_cons,ny];exact hc'),?_⟩
     obtain⟨oc,ho',hd'⟩:=zz
     exact⟨oc,k _ _ ho',hd'⟩
 cell:=fun x c e=>by
  rcases csD_sound S I e with⟨_,⟨_,b1⟩ |⟨_,b1⟩⟩ | a1
  ·rw[b1];exact⟨none,hcl⟩
  ·rw[b1];exact⟨none,hcl2⟩
  ·obtain⟨v,oc,ho',hd'⟩:=I.cell x c a1
   exact⟨v,oc,k _ _ ho',hd'⟩
 free:=I.hok.fresh hC
 freeC:=fun x c e=>by
  rcases csD_sound S I e with⟨b1,_⟩ | a1
  ·exact I.hok.fresh (Nat.le_trans hC (Nat.le_of_lt b1))
  ·exact I.freeC x c a1
 pin:=fun p hp=>by
  have hp:p∈X.pn++(pins++[(D,oD)]):=hp
  have cne:∀ b o,s2.heap.get? b=some o->b≠C:=fun b o e z=>by
   have h1:=Nat.lt_of_lt_of_le (Heap.lt_size e) hC
   rw[z]at h1
   exact Nat.lt_irrefl _ h1
  rw[<- List.append_assoc]at hp
  rcases List.mem_append.mp hp with hp | hp
  ·obtain⟨e,n,ne,nf,d⟩:=I.pin p hp
   exact⟨k _ _ e,n,cne _ _ e,fun z=>by
    rcases List.mem_cons.mp (I.stkSub p.1 z)with e | e
    ·exact ne e
    ·exact nf e,d⟩
  ·have e:p=(D,oD):=by simpa using hp
   subst e
   refine⟨hD,I.hok.fresh hDs,hDC,fun z=>?_,hDc⟩
   rcases List.mem_cons.mp (I.stkSub D z)with e | e
   ·have h1:=Nat.lt_of_lt_of_le I.lt hDs
    rw[e]at h1
    exact Nat.lt_irrefl _ h1
   ·exact I.nofs hDs e
 hok:=I.hok.kept k
 len:=by unfold capt;rw[List.length_map];exact S.len
end
section
variable{X:Cx}{y z:Str}{elt tg iter:Expr}{ifs:List Expr}{scope:Scope}{pos:Pos}{N':List Str}{cap:List (Option Nat)}{wi:TI}{g:TG}{tc:TT}{te:TE}
theorem comp_runD(hc:X.calm=true)(S:CellScope2 y z N' cap X.N X.env.scope scope)(hi:PI X tg iter wi)(hg:∀ C s H fp,PG (cxId X y z N' scope C s H fp) tg g)
  (ht:∀ C s H fp,PF (cxId X y z N' scope C s H fp) ifs tc) (he:∀ C s H fp,PE (cxId X y z N' scope C s H fp) elt te)
  {pins:List (Addr×Obj)}{s:Shared}{σ:St}{H:Hp}{Q:VK} (I:Inv X pins σ H s) (h:tComp cap wi g tc te σ H Q) :
  wpAny (model X.prog X.w) X.A (eval iter X.env) (fun x s₁=>wpAny (model X.prog X.w) X.A (pyIter x) (fun it s₂=>wpAny (model X.prog X.w) X.A (newList []) (fun acc s₃ =>
   wpAny (model X.prog X.w) X.A (newFunctionEnv scope X.env.globals (closCl X.env.cells scope.names []) [] X.env.qual none .none (some X.env)) (fun cenv s₄ =>
    codeAny (model X.prog X.w) X.A (.compStart (.ListComp elt [⟨tg,iter,ifs,0⟩] scope pos) 0 it acc { cenv with scope:=relabel scope X.env }) (CompEnd X pins σ Q acc cenv.locals) s₄) X.xe s₃) X.xe s₂) X.xe s₁) X.xe s:=by
 refine thn (hi pins s σ H _ I h) fun v s1 h1=>thn h1 fun itv s2 h2=>?_
 obtain⟨it,fp,tn,J,H2,e,I2,T,st2,f2,n,P,hn,p0,turn⟩:=h2
 subst e
 refine wpAny_newObj_type (newEnv_cell2 S.one S.push ?_)
 dsimp only
 generalize hHp:s2.heap.push { cls:=.type "list",dict:=none,data:=.seq ([]:List Value).toArray } = Hq
 generalize hh1:((Hq.push { cls:=.type "dict",data:=.dict #[] }).push { cls:=.type "cell",data:=.cell none }).push { cls:=.type "cell",data:=.cell none } = h₁
 have hns₁:h₁.Ns Hq.objs.size fun _=>none:=by rw[<- hh1];exact(Heap.Ns.new Hq (.type "dict")).keeps fun b o e=>Heap.get?_push_of_some _ (Heap.get?_push_of_some _ e)
 have hcl₁:h₁.IsCell (Hq.objs.size+1) none:=by
  have e:(Hq.push { cls:=.type "dict",data:=.dict #[] }).objs.size=Hq.objs.size+1:=Heap.size_push ..
  rw[<- hh1,<- e]
  exact⟨_,Heap.get?_push_of_some _ (Heap.get?_push_size _ rfl),rfl⟩
 have hcl₂:h₁.IsCell (Hq.objs.size+1+1) none:=by
  have e:((Hq.push { cls:=.type "dict",data:=.dict #[] }).push { cls:=.type "cell",data:=.cell none }).objs.size=Hq.objs.size+1+1:=by rw[Heap.size_push,Heap.size_push]
  rw[<- hh1,<- e]
  exact⟨_,Heap.get?_push_size _ rfl,rfl⟩
 have up₁:∀ b o,Hq.get? b=some o->h₁.get? b=some o:=fun b o e=>by rw[<- hh1];exact Heap.get?_push_of_some _ (Heap.get?_push_of_some _ (Heap.get?_push_of_some _ e))
 have hC:Hq.objs.size=s2.heap.objs.size+1:=by rw[<- hHp,Heap.size_push]
 have hDC:s2.heap.objs.size≠Hq.objs.size:=by rw[hC];exact Nat.ne_of_lt (Nat.lt_succ_self _)
 have hCle:s2.heap.objs.size<=Hq.objs.size:=by rw[hC];exact Nat.le_succ _
 have old:∀ b o,s2.heap.get? b=some o->h₁.get? b=some o:=fun b o e=>up₁ b o (hHp▸Heap.get?_push_of_some _ e)
 have hacc:h₁.PlainList s2.heap.objs.size #[]:=⟨_,up₁ _ _ (hHp▸Heap.get?_push_size _ rfl)⟩
 have hfo:∀ b∈fp,∃ o,s2.heap.get? b=some o:=fun b hb=>let ⟨o,e,_⟩:=T.obj _ _ st2 b hb;⟨o,e⟩
 have st4:tn 0 h₁:=T.keep _ _ _ st2 fun b _ o e=>old b o e
 let D:Addr:=s2.heap.objs.size
 let C:Addr:=Hq.objs.size
 let Y:Cx:=cxId X y z N' scope C s2 H2 fp
 have hDfp:D∉fp:=fun hb=>by
  obtain⟨o,e⟩:=hfo D hb
  exact Nat.lt_irrefl _ (Heap.lt_size e)
 -- the iterator's objects,seen from within
 have stat:∀ {H':Hp}{oD:Obj},(∀ b∈fp,H' b=none)->∀ b∈fp,FpOk Y (pins++[(D,oD)]) H' b:=fun {H' oD} hn b hb=>by
  obtain⟨f0,f1,fx,f3,f4,f5⟩:=f2 b hb
  obtain⟨o,e⟩:=hfo b hb
  refine⟨hn b hb,fun z=>?_,fun z=>?_,.inl hb,fun x c e=>by
   rcases csD_sound S I2 e with⟨b1,_⟩ | a1
   ·obtain⟨o,ho⟩:=hfo b hb
    have h1:=Nat.lt_of_lt_of_le (Heap.lt_size ho) hCle
    intro z
    rw[<- z]at h1
    exact absurd (Nat.lt_trans h1 b1) (Nat.lt_irrefl _)
   ·exact f4 x c a1,fun p hp=>?_⟩
  ·have h1:=Nat.lt_of_lt_of_le (Heap.lt_size e) hCle
   have z:b=Hq.objs.size:=z
   rw[z]at h1
   exact Nat.lt_irrefl _ h1
  ·rcases List.mem_cons.mp (I2.stkSub b z)with e | e
   ·exact f1 e
   ·exact fx e
  ·have hp:p∈X.pn++(pins++[(D,oD)]):=hp
   rw[<- List.append_assoc]at hp
   rcases List.mem_append.mp hp with hp | hp
   ·exact f5 p hp
   ·have q:p=(D,oD):=by simpa using hp
    subst q
    exact fun z=>hDfp (by rw[show D=b from z];exact hb)
 have loop:∀ s₃:Shared,s₃ = { s2 with heap:=h₁,toks:=s2.toks } ->
   codeAny (model X.prog X.w) X.A (.compLoop (.ListComp elt [⟨tg,iter,ifs,0⟩] scope pos) 0 (.ref it) (.ref s2.heap.objs.size) (compEnvC scope ((z,Hq.objs.size+1+1) :: (y,Hq.objs.size+1) :: closCl X.env.cells scope.names []) Hq.objs.size X.env))
    (CompEnd X pins σ Q (.ref s2.heap.objs.size) Hq.objs.size) s₃:=by
  rintro s₃ rfl
  have cellD:∀ x c,Y.env.cells.lookup x=some c->c≠D:=fun x c e z=>by
   have z:c=s2.heap.objs.size:=z
   rcases csD_sound S I2 e with⟨b1,_⟩ | a1
   ·have b1:Hq.objs.size<c:=b1
    rw[z,hC]at b1
    exact absurd b1 (Nat.not_lt.mpr (Nat.le_succ _))
   ·obtain⟨v,q⟩:=I2.cell x c a1
    have h1:=q.lt
    rw[z]at h1
    exact Nat.lt_irrefl _ h1
  have pinD:∀ p∈X.pn++pins,p.1≠D:=fun p hp z=>by
   have h1:=Heap.lt_size (I2.pin p hp).1
   rw[show p.1=s2.heap.objs.size from z]at h1
   exact Nat.lt_irrefl _ h1
  have inD:∀ {pl:List (Addr×Obj)}{oD:Obj},(D,oD)∈Y.pn++((pins++[(D,oD)])++pl):=fun {pl oD}=>List.mem_append_right _ (List.mem_append_left _ (List.mem_append_right _ (by simp)))
  have inF:∀ {pl:List (Addr×Obj)}{oD:Obj}{p:Addr×Obj},p∈pl->p∈Y.pn++((pins++[(D,oD)])++pl):=fun {pl oD p} hp=>List.mem_append_right _ (List.mem_append_right _ hp)
  refine codeAny_compLoop_any (fun m s'=>∃ i ys H' its ep,m=n-i/\i<=n/\ys.length<=i/\Vals ys its/\Inv Y (pins++[(D,{ cls:=.type "list",data:=.seq its.toArray ep })]) (capt cap σ) H' s'/\tn i s'.heap/\(∀ b∈fp,H' b=none)/\P i ys H') ?_ n ?_
  ·rintro m s3 ⟨i,ys,H3,its,ep,rfl,hin,hyl,rv,I3,st3,fr3,p3⟩
   rcases turn i ys H3 hyl hin p3 with⟨stop,q⟩ |⟨hlt,go,step⟩
   ·refine thn (T.done Y rfl rfl rfl hc i _ s3 _ H3 (fun _ _=>False) I3 (stat fr3) st3 stop) fun r s4 ⟨hr,I4⟩=>?_
    subst hr
    obtain⟨eD,nD,_⟩:=I4.pin (D,{ cls:=.type "list",data:=.seq its.toArray ep }) (List.mem_append_right _ (List.mem_append_right _ (by simp)))
    have nD:H3 D=none:=nD
    have okn:ObjOk X.prog X.w (upd H3 D (.lst ys)) s4.heap D (.lst ys):=⟨Nat.le_trans hyl (Nat.le_trans hin hn),its,ep,rv,eD⟩
    have hok:HOk X.prog X.w (upd H3 D (.lst ys)) s4.heap:=fun b u e=>by
     by_cases hb:b=D
     ·subst hb;rw[upd_same]at e;cases e;exact okn
     ·rw[upd_ne hb]at e
      exact(I4.hok b u e).stay (fun c v _ q=>q) (fun c q=>by rw[upd_ne (ne_of_none q nD)];exact q) fun c xs q=>by rw[upd_ne (ne_of_none q nD)];exact q
    have B:=I4.base
    have u:Un (frs X.stack) fp H2 (upd H3 D (.lst ys)) s2.heap s4.heap :=
     ⟨B.keep,B.slot,fun b o e n hx=>by rw[upd_ne (Nat.ne_of_lt (Heap.lt_size e))];exact B.free b o e n hx,B.there,fun b xs e=>by rw[upd_ne (ne_of_none (B.tups b xs e) nD)];exact B.tups b xs e,
      fun b o xs e=>by rw[upd_ne (ne_of_none (B.frzs b o xs e) nD)];exact B.frzs b o xs e,fun b ps e=>by
       obtain⟨more,z⟩:=B.tbls b ps e
       exact⟨more,by rw[upd_ne (ne_of_none z nD)];exact z⟩⟩
    have IX:Inv X pins σ (upd H3 D (.lst ys)) s4:=I2.call' (ch:=fp) I4.os u hok I4.bare fun b hb=>by
     obtain⟨f0,f1,fx,f3,f4,f5⟩:=f2 b hb
     exact⟨f3,f1,f4,f5⟩
    have nC:(upd H3 D (.lst ys)) Hq.objs.size=none:=by rw[upd_ne (Ne.symm hDC)];exact I4.free
    obtain⟨m',hm',_⟩:=I4.loc
    exact⟨.ref D,_,IX,rfl,q D nD,⟨m',hm'⟩,I2.fpOk hCle nC⟩
   ·refine thn (T.item Y rfl rfl rfl hc i _ s3 _ H3 (fun _ _=>False) I3 (stat fr3) st3 go) fun r s4 ⟨u,hr,h4⟩=>?_
    subst hr
    refine thn h4 fun _ s5 ⟨x,H5,I5,r5,y5,st5,fr5⟩=>?_
    have I5':=I5.pinned (stat fr5) (T.obj _ _ st5)
    refine thn (hg C s2 H2 fp _ s5 _ H5 x u _ I5' r5 (step x H5 y5)) fun _ s6 ⟨σ6,H6,I6,kp,q6⟩=>?_
    refine thn (ht C s2 H2 fp _ s6 σ6 H6 _ I6 q6) fun b s7 ⟨H7,I7,q7⟩=>?_
    cases b with
    |false =>
     rw[if_neg Bool.false_ne_true]at q7 ⊢
     refine⟨n-(i+1),Nat.sub_succ_lt_self n i hlt,i+1,ys,H7,its,ep,rfl,hlt,Nat.le_succ_of_le hyl,rv,I7.unpinned.weak kp.length kp.get,?_,fun b hb=>?_,q7⟩
     ·exact T.keep _ _ _ st5 fun b hb o e=>(I7.pin (b,o) (inF (mem_pinsAt hb e))).1
     ·obtain⟨o,e,d⟩:=T.obj _ _ st5 b hb
      exact(I7.pin (b,o) (inF (mem_pinsAt hb e))).2.1
    |true =>
     rw[if_pos rfl]at q7 ⊢
     refine thn (he C s2 H2 fp _ s7 σ6 H7 _ I7 q7) fun yv s8 ⟨y,H8,I8,r8,q8⟩=>?_
     obtain⟨eD,nD,_⟩:=I8.pin (D,{ cls:=.type "list",data:=.seq its.toArray ep }) inD
     have hsz:its.toArray.size<=sizeLine:=by
      rw[List.size_toArray,<- rv.length]
      exact Nat.le_trans hyl (Nat.le_trans hin hn)
     refine wpAny_list_append_plain (items:=its.toArray) ⟨ep,eD⟩ (fun h9 pl9 sb9=>?_) hsz
     obtain⟨ep',e9⟩:=pl9
     have e9:h9.get? D=some { cls:=.type "list",data:=.seq (its++[yv]).toArray ep' }:=by rw[e9];simp
     have Ia:Inv Y pins σ6 H8 s8:=I8.pins_of fun p hp=>I8.pin p (List.mem_append_right _ (List.mem_append_left _ (List.mem_append_left _ hp)))
     have Ib:Inv Y pins σ6 H8 { s8 with heap:=h9 }:=Ia.turned (it:=D) (t':=s8.toks) (fun b o hb e=>(sb9.2 b hb).trans e) nD hDC (.inr (Nat.le_refl _)) cellD pinD
     have Ic:Inv Y (pins++[(D,{ cls:=.type "list",data:=.seq (its++[yv]).toArray ep' })]) σ6 H8 { s8 with heap:=h9 }:=Ib.pins_of fun p hp=>by
      rcases List.mem_append.mp hp with hp | hp
      ·exact Ib.pin p (List.mem_append_right _ hp)
      ·have q:p=(D,{ cls:=.type "list",data:=.seq (its++[yv]).toArray ep' }):=by simpa using hp
       subst q
       obtain⟨_,_,z1,z2,_⟩:=I8.pin (D,{ cls:=.type "list",data:=.seq its.toArray ep }) inD
       exact⟨e9,nD,z1,z2,fun v z=>by cases z⟩
     refine⟨n-(i+1),Nat.sub_succ_lt_self n i hlt,i+1,ys++[y],H8,its++[yv],ep',rfl,hlt,by simp;omega,Vals.append rv (.cons r8 .nil),Ic.weak kp.length kp.get,?_,fun b hb=>?_,q8⟩
     ·exact T.keep _ _ _ st5 fun b hb o e=>sb9.extBut b o (fun z=>hDfp (by rw[show D=b from Eq.symm z];exact hb)) (I8.pin (b,o) (inF (mem_pinsAt hb e))).1
     ·obtain⟨o,e,d⟩:=T.obj _ _ st5 b hb
      exact(I8.pin (b,o) (inF (mem_pinsAt hb e))).2.1
  ·obtain⟨ep,e⟩:=hacc
   refine⟨0,[],H2,[],ep,rfl,Nat.zero_le _,Nat.le_refl _,.nil,?_,st4,fun b hb=>(f2 b hb).1,p0⟩
   exact cxId_inv (s4:={ s2 with heap:=h₁,toks:=s2.toks }) S I2 hCle f2 hfo rfl rfl old hns₁ e (Nat.le_refl _) hDC (fun v z=>by cases z) hcl₁ hcl₂
 exact codeAny_compStart_list (loop _ rfl) (T.self X.A 0 _ _ _ st4 (loop _ rfl))
theorem pe_compD(hc:X.calm=true)(S:CellScope2 y z N' cap X.N X.env.scope scope)(hi:PI X tg iter wi)(hg:∀ C s H fp,PG (cxId X y z N' scope C s H fp) tg g)
  (ht:∀ C s H fp,PF (cxId X y z N' scope C s H fp) ifs tc) (he:∀ C s H fp,PE (cxId X y z N' scope C s H fp) elt te)
  (hs:∀ x,foldedSetIterable iter X.env x=pure x:=by intro _;rfl):PE X (.ListComp elt [⟨tg,iter,ifs,0⟩] scope pos) (tComp cap wi g tc te):=by
 intro pins s σ H Q I h
 rw[eval_ListComp]
 refine wpAny_comprehension_free (use:=none) rfl hs (closureFor_cells (S.clos I)) S.kind S.loc (thn (comp_runD (pos:=pos) hc S hi hg ht he I h) fun x s1 h1=>thn h1 fun it s2 h2=>thn h2 fun acc s3 h3=>thn h3 fun cenv s4 h4=>?_)
 refine codeAny_mono h4 fun r s' hr=>?_
 cases r with
 |error x=>exact hr.elim
 |ok f =>
  obtain⟨v,H',I',rv,q,⟨m,hn⟩,f0,f1,f2,f3,f4,f5⟩:=hr
  refine⟨m,hn,fun h' sb=>⟨v,H',I'.turned (it:=cenv.locals) (t':=s'.toks) (fun b o hb e=>(sb.2 b hb).trans e) f0 f1 f3 f4 f5,rv,q⟩⟩
end
open PySem PySem.W PyProof.Rows
theorem vals_at:∀ {xs:List V}{us:List Value},Vals xs us->∀ (i:Nat) (h:i<xs.length) (h':i<us.length),RelV xs[i] us[i]
 | _,_,.nil,i,h,_=>absurd h (Nat.not_lt_zero _)
 | _,_,.cons r t,0,_,_=>r
 | _,_,.cons r t,i+1,h,h'=>vals_at t i (Nat.lt_of_succ_lt_succ h) (Nat.lt_of_succ_lt_succ h')
noncomputable def unint:Value->Int
 | .int i _=>i
 | _=>0
inductive rIndexII(x:V)(vs:List V)(H:Hp)(Q:VK):Prop where
 |mk (l:Addr) (ns:List Int) (n:Int) (j:Nat) (h1:x = .ref l) (h2:vs=[.int n]) (h3:H l=some (.lst (ns.map V.int))) (h4:ns[j]?=some n) (h5:(∀ m,m<j->ns[m]?≠some n)) (h6:Q (.int j) H)
noncomputable def rIndexI:V->List V->Hp->VK->Prop:=fun x vs H Q=>rIndexII x vs H Q
theorem mt_indexI{X:Cx}:MtM X "list.index" rIndexI:=by
 intro pins s σ H x vs v us Q I rx rv h
 obtain⟨l,ns,n,j,rfl,rfl,hl,hj,hno,q⟩:=h
 cases rx
 obtain⟨u,rfl,ru⟩:=rv.one
 obtain⟨t,rfl⟩:=ru
 obtain⟨z,its,n',r,hln,e⟩:=I.lstM hl
 rw[List.length_map,sizeLine_eq]at z
 have jl:j<ns.length:=(List.getElem?_eq_some_iff.mp hj).1
 have il:its.length=ns.length:=by rw[<- r.length,List.length_map]
 have ky:∀ (m:Nat) (hm:m<ns.length),∃ t,its[m]'(by lia) = .int ns[m] t:=fun m hm=>by
  obtain⟨t,e⟩:RelV (V.int ns[m]) (its[m]'(by lia)):=by
   have:=vals_at r m (by rw[List.length_map];exact hm) (by lia)
   rw[List.getElem_map]at this
   exact this
  exact⟨t,e⟩
 refine call_meets F.slot_list_index ⟨_,e,rfl⟩ F.entry_list_index (F.args_list_index_2 _ _) (PySem.SeqAt.list_indexAt l its.toArray n' _ _ (.int n t) (fun u=>unint u == n) j (by simp;lia) ?_ ?_ ?_) ⟨e,fun y hy=>?_,?_⟩
 ·lia
 ·obtain⟨t',e'⟩:=ky j jl
  rw[List.getElem_toArray,e']
  show(ns[j] == n)=true
  rw[(List.getElem?_eq_some_iff.mp hj).2]
  simp
 ·intro m hm lt
  obtain⟨t',e'⟩:=ky m (by lia)
  rw[List.getElem_toArray,e']
  show(ns[m] == n)=false
  refine Bool.eq_false_iff.mpr fun w=>hno m lt ?_
  rw[List.getElem?_eq_getElem (by lia),eq_of_beq w]
 ·obtain⟨i,hi,e'⟩:=List.getElem_of_mem (show y∈its by simpa using hy)
  obtain⟨t',e2⟩:=ky i (by lia)
  rw[<- e',e2]
  exact SeqAt.EqAt.int_int _ _ _ _
 ·exact⟨.int j,H,I.tok _,⟨_,rfl⟩,q⟩
end L2
namespace K19
open PySem L2 PyProof.Rows
theorem inV_dec(z:Int)(ns:List Int):inV (V.int z) (ns.map V.int)=decide (z∈ns):=by
 rw[Bool.eq_iff_iff,inV_ints,List.contains_iff_mem,decide_eq_true_eq]
theorem ne_in{L:List Int}{a b:Int}:(!decide (V.bl (inV (.int a) (L.map V.int))=V.bl (inV (.int b) (L.map V.int))))=(decide (a∈L) != decide (b∈L)):=by
 rw[inV_dec,inV_dec]
 by_cases h1:a∈L <;> by_cases h2:b∈L <;> simp[h1,h2]
noncomputable def crs(x:Tie)(l:List Int):Bool:=decide (x.1∈l) != decide (x.2.1∈l)
noncomputable def rimK(ties:List Tie)(Ls:List (List Int)):List (List Int):=(ties.filter fun x=>Ls.any (crs x)).map pairOf
inductive spRmI(vs:List V)(H:Hp)(Q:VK):Prop where
 |mk (t s:Addr) (n:Nat) (ties:List Tie) (as:List Addr) (Ls:List (List Int)) (h1:vs=[.ref t,.ref s]) (h2:WebAt H t n ties) (h3:H s=some (.lst (as.map V.ref))) (h4:LsAt H as Ls) (h5:Ls.length<=1000) (h6:∀ (l:Addr) (cs:List Addr) (H':Hp),H l=none->H' l=some (.lst (cs.map V.ref))->TupsAt H' cs (rimK ties Ls)->Same H H'->Q (.ref l) H')
noncomputable def spRm:Sp:=fun vs H Q _=>spRmI vs H Q
section
variable{P:Program}{w:World}{K:PySem.W.Frag}{mg:Str->Option Value}{base:Heap}
noncomputable abbrev nRm:List Str:=["web","sides"]
theorem scRm:FnScope nRm ["web","sides"] (defScope sRimOf):=⟨rfl,rfl,rfl,by decide +kernel,rfl,by decide +kernel,by decide +kernel⟩
theorem csRm1:CellScope2 "a" "b" ["a","b","weight","sides"] [none,none,none,some 1] nRm (defScope sRimOf) (scO [(".0",.local),("a",.cell),("b",.cell),("weight",.local),("any",.globalImplicit),("sides",.free)]):=⟨rfl,fun _ _=>rfl,fun _=>rfl,by decide +kernel,by decide +kernel,by decide +kernel,by decide +kernel,by decide +kernel,by decide +kernel,rfl,capB_ok (by decide +kernel)⟩
theorem ndRm1:(["a","b","weight","sides"]:List Str).Nodup:=by decide +kernel
theorem csRm2:CompScope ["side","a","b"] [none,some 0,some 1] ["a","b","weight","sides"] (scO [(".0",.local),("a",.cell),("b",.cell),("weight",.local),("any",.globalImplicit),("sides",.cell)]) (scO [(".0",.local),("side",.local),("a",.free),("b",.free)]):=⟨rfl,by decide +kernel,by decide +kernel,by decide +kernel,rfl,capB_ok (by decide +kernel)⟩
theorem ndRm2:(["side","a","b"]:List Str).Nodup:=by decide +kernel
noncomputable abbrev teRm2(K:PySem.W.Frag):TE:=tComp [none,some 0,some 1] (iList K (tVar 3)) (gName 0) tTru (tOp rNe (tOp (rInQ false false) (tVar 1) (tVar 0)) (tOp (rInQ false false) (tVar 2) (tVar 0)))
theorem ok_rm{f:Addr}{fd:FuncData}(F:Fun K "rim_of" "rim_of" sRimOf f fd)(T:Txt mg)(T2:Txt2 mg):FnOk P w K mg base CX0 1 f fd ["web","sides"] spRm:=by
 refine F.ok scRm (fun vs H Q E h=>?_) (fun cdv A outer s H vs Q E hr h=>?_)
 ·obtain⟨t,s,n,ties,as,Ls,rfl,_⟩:=h
  rfl
 ·obtain⟨t,s,n,ties,as,Ls,rfl,W,gs,pl,sl,fin⟩:=h
  obtain⟨⟨ts,bs,h1,h2,h3⟩,len⟩:=id W
  have h3l:bs.length=ties.length:=h3.length
  have asl:as.length=Ls.length:=Paired.length pl
  refine⟨_,(pss_one (ps_ret (pe_compD rfl csRm1 (pi_tup (@pe_ix _ _ _ _ _ _ _ ix_tupH (pv 0) pe_int (fun _ _=>rfl))) (fun C s H fp=>(pg_tupK K rfl (n:=3) rfl (pgs_cons (pg_name (i:=0) ndRm1 rfl (Or.inr rfl) (Or.inl (by rfl))) (pgs_cons (pg_name (i:=1) ndRm1 rfl (Or.inr rfl) (Or.inl (by rfl))) (pgs_cons (pg_name (i:=2) ndRm1 rfl (Or.inl rfl)) pgs_nil))) rfl rfl)) (fun C s H fp=>(pf_one (pt_val (pe_callB (call_anyH rfl) (by rfl) T2.any boot_any (@pa_comp _ _ _ _ _ _ _ _ (show PE _ _ (teRm2 K)from pe_comp rfl csRm2 (pi_list (pv 3)) (fun C s H fp=>(pg_name (i:=0) ndRm2 rfl (Or.inl rfl))) (fun C s H fp=>pf_nil) (fun C s H fp=>(pe_cmpR op_ne (pe_cmpR op_inH (pv 1) (pv 0) rfl) (pe_cmpR op_inH (pv 2) (pv 0) rfl) (nomark _)))) pa_nil))))) (fun C s H fp=>(@pe_tup _ _ _ _ _ (@pa_nam _ _ _ _ _ _ (pv 0) (@pa_nam _ _ _ _ _ _ (pv 1) pa_nil))))))),?_⟩
  refine⟨_,rfl,t,_,_,_,rfl,rfl,h1,rfl,ts,rfl,⟨_,SqT.of h2⟩,?_⟩
  refine comp_tup (K:=K) (a:=ts) (xs:=bs.map V.ref) (fun j ys G=>Same H G/\∃ cs:List Addr,ys=cs.map V.ref/\TupsAt G cs (rimK (ties.take j) Ls)) (by rw[List.length_map,sizeLine_eq];lia) ⟨Same.refl _,[],rfl,.nil⟩ (fun j ys G _ z=>SqT.of (z.1 _ _ h2)) ?_ ?_
  ·rintro j x ys G hx ⟨sG,cs,rfl,tc⟩
   obtain⟨jl,e⟩:=List.getElem?_eq_some_iff.mp hx
   rw[List.length_map]at jl
   rw[List.getElem_map]at e
   subst e
   have jt:j<ties.length:=by lia
   have gx:=sG _ _ (Paired.at h3 j jl jt)
   have e1:rimK (ties.take (j+1)) Ls=rimK (ties.take j) Ls++rimK [ties[j]] Ls:=by
    unfold rimK
    rw[List.take_succ_eq_append_getElem jt,List.filter_append,List.map_append]
   refine⟨bs[j],_,rfl,SqT.of gx,rfl,_,_,rfl,_,_,rfl,_,_,rfl,rfl,⟨rfl,trivial⟩,?_⟩
   generalize ties[j]=z at *
   refine⟨_,rfl,s,rfl,⟨_,SqL.of (sG _ _ gs)⟩,?_⟩
   refine comp_list (K:=K) (a:=s) (xs:=as.map V.ref) (fun i zs G2=>G2=G/\zs=((Ls.take i).map (crs z)).map V.bl) (by rw[List.length_map,sizeLine_eq];lia) ⟨rfl,rfl⟩ (fun i zs G2 _ q=>by rw[q.1];exact SqL.of (sG _ _ gs)) ?_ ?_
   ·rintro i x zs G2 hx ⟨rfl,rfl⟩
    obtain⟨il,e⟩:=List.getElem?_eq_some_iff.mp hx
    rw[List.length_map]at il
    rw[List.getElem_map]at e
    subst e
    have iL:i<Ls.length:=by lia
    have gl:=sG _ _ (Paired.at pl i il iL)
    rw[List.take_succ_eq_append_getElem iL,List.map_append,List.map_append]
    generalize Ls[i]=l at *
    refine⟨⟨rfl,rfl,trivial⟩,tTru_if ⟨_,rfl,_,rfl,as[i],_,rfl,gl,rfl,flat_ints l,_,rfl,_,rfl,as[i],_,rfl,gl,rfl,flat_ints l,rfl,rfl,?_⟩⟩
    have e2:V.bl (!decide (V.bl (inV (.int z.1) (l.map V.int))=V.bl (inV (.int z.2.1) (l.map V.int))))=V.bl (crs z l):=congrArg V.bl ne_in
    show _++[V.bl (!decide (V.bl (inV (.int z.1) (l.map V.int))=V.bl (inV (.int z.2.1) (l.map V.int))))]=_
    rw[e2]
    rfl
   rintro zs G2 _ ⟨rfl,rfl⟩ D hD
   have et:Ls.take (as.map V.ref).length=Ls:=List.take_of_length_le (by rw[List.length_map];lia)
   rw[et]
   refine⟨D,_,rfl,upd_same,_,rfl,?_⟩
   have ea:(Ls.map (crs z)).any id=Ls.any (crs z):=by rw[List.any_map];rfl
   rw[ea,e1]
   have sD:=Same.new (o:=.lst ((Ls.map (crs z)).map V.bl)) hD
   have sGD:=sG.trans sD
   have tcD:TupsAt (upd G2 D (.lst ((Ls.map (crs z)).map V.bl))) cs (rimK (ties.take j) Ls):=Paired.mapP tc fun _ _ e=>sD _ _ e
   generalize (upd G2 D (.lst ((Ls.map (crs z)).map V.bl)))=G3 at sGD tcD
   refine ite2 (fun h=>?_) (fun h=>?_)
   ·refine⟨_,rfl,_,rfl,(by show 2<=sizeLine;decide),fun tp htp=>?_⟩
    have sT:=Same.new (o:=.tup [.int z.1,.int z.2.1]) htp
    refine⟨sGD.trans sT,cs++[tp],by rw[List.map_append];rfl,?_⟩
    have e3:rimK [z] Ls=[pairOf z]:=by
     unfold rimK
     rw[List.filter_cons,if_pos h]
     rfl
    rw[e3]
    exact Paired.snoc (Paired.mapP tcD fun _ _ e=>sT _ _ e) upd_same
   ·refine⟨sGD,cs,rfl,?_⟩
    have e3:rimK [z] Ls=[]:=by
     unfold rimK
     rw[List.filter_cons,if_neg h]
     rfl
    rw[e3,List.append_nil]
    exact tcD
  ·rintro ys G _ ⟨sG,cs,rfl,tc⟩ D hD
   rw[List.length_map,h3l,List.take_length]at tc
   have sD:=Same.new (o:=.lst (cs.map V.ref)) hD
   exact fin D cs _ (sG.free hD) upd_same (Paired.mapP tc fun _ _ e=>sD _ _ e) (sG.trans sD)
end
open PySem L2 PyProof.Rows
structure Pap(n:Nat)(ties:List Tie)(ps:List Int)(x:Int×List Int)(p:Int):Prop where
 has:p∈x.2
 no:∀ q∈ps,q≠p->q∉x.2
 val:x.1=Flw.sideW ties x.2
 low:∀ L,Flw.Side n [p] (others ps p) L->x.1<=Flw.sideW ties L
section
variable{n:Nat}{ties:List Tie}{ps:List Int}
theorem Pap.of(ok:∀ x∈ties,TieOk n x)(po:Posts n ps){p:Int}(hp:p∈ps){am side:List Int}(T:FlowTold n ties [p] (others ps p) am side):Pap n ties ps (Flw.val ties am [p],side) p:=by
 have EN:=po.ends hp
 obtain⟨FL,no⟩:=Flw.great_ok ok EN T.gr
 have TO:=Flw.trails_ok (am:=am) (turn:=1) (n:=n) ok EN.sr EN.sn
 have sm:∀ v,v∈side↔v∈Flw.keys (Flw.trails n ties am 1 [p]):=fun v=>T.pm.mem_iff
 refine⟨(sm p).mpr (TO.2.1 p (List.mem_singleton.mpr rfl)),fun q hq ne z=>no q ((sm q).mp z) (mem_others.mpr ⟨hq,ne⟩),?_,fun L S=>Flw.side_le ok EN T.gr S⟩
 show Flw.val ties am [p]=Flw.sideW ties side
 rw[Flw.val_side ok EN T.gr]
 exact Flw.sideW_congr fun v=>(sm v).symm
theorem mem_erase{α:Type}:∀ {l:List α}{d m:Nat} (hm:m<l.length),m≠d->l[m]∈l.eraseIdx d
 | _ :: _,0,m+1,hm,_=>List.getElem_mem _
 | _ :: _,d+1,0,_,_=>List.mem_cons_self
 | _ :: l,d+1,m+1,hm,ne=>List.mem_cons_of_mem _ (mem_erase (l:=l) (Nat.lt_of_succ_lt_succ hm) fun e=>ne (by rw[e]))
theorem rim_parts(ok:∀ x∈ties,TieOk n x)(po:Posts n ps){xs:List (Int×List Int)}(pp:Paired (Pap n ties ps) xs ps)(d:Nat):pB n ties ps (rimK ties ((xs.map (·.2)).eraseIdx d))=true:=by
 obtain⟨hs,IH⟩:=heads_ex (rest_ok (ks:=rimK ties ((xs.map (·.2)).eraseIdx d)) ok)
 rw[<- pB_eq IH,parted_iff]
 unfold List.Nodup
 rw[List.pairwise_map,List.pairwise_iff_getElem]
 intro i j hi hj ij e
 have xl:=pp.length
 obtain⟨i0,i1⟩:=po.rg _ (List.getElem_mem hi)
 obtain⟨j0,j1⟩:=po.rg _ (List.getElem_mem hj)
 have r:Rch (rest ties (rimK ties ((xs.map (·.2)).eraseIdx d))) ps[i] ps[j]:=(IH.rch _ i0 i1).trans (by rw[e];exact(IH.rch _ j0 j1).symm)
 have ne:ps[i]≠ps[j]:=fun z=>by
  have:=(List.getElem_inj po.nd).mp z
  lia
 have key:∀ m (hm:m<ps.length) (hx:m<xs.length),m≠d->(ps[i]∈xs[m].2↔ps[j]∈xs[m].2):=fun m hm hx nd=>by
  have inL:xs[m].2∈(xs.map (·.2)).eraseIdx d:=by
   have:=mem_erase (l:=xs.map (·.2)) (d:=d) (m:=m) (by rw[List.length_map];exact hx) nd
   rw[List.getElem_map]at this
   exact this
  have q:=Rch.inv (f:=fun v=>decide (v∈xs[m].2)) (fun a b w hm'=>by
   obtain⟨m1,m2⟩:=mem_rest.mp hm'
   refine decide_eq_decide.mpr (Classical.byContradiction fun z=>m2 ?_)
   refine List.mem_map.mpr ⟨_,List.mem_filter.mpr ⟨m1,List.any_eq_true.mpr ⟨_,inL,?_⟩⟩,rfl⟩
   show(decide (a∈xs[m].2) != decide (b∈xs[m].2))=true
   by_cases h1:a∈xs[m].2 <;> by_cases h2:b∈xs[m].2
   ·exact absurd ⟨fun _=>h2,fun _=>h1⟩ z
   ·rw[decide_eq_true h1,decide_eq_false h2];rfl
   ·rw[decide_eq_false h1,decide_eq_true h2];rfl
   ·exact absurd ⟨fun c=>absurd c h1,fun c=>absurd c h2⟩ z) r
  exact decide_eq_decide.mp q
 by_cases c:i=d
 ·have P:=Paired.at pp j (by lia) hj
  exact P.no _ (List.getElem_mem hi) ne ((key j hj (by lia) (by lia)).mpr P.has)
 ·have P:=Paired.at pp i (by lia) hi
  exact P.no _ (List.getElem_mem hj) (Ne.symm ne) ((key i hi (by lia) c).mp P.has)
theorem wOf_of:∀ {ties:List Tie},(ties.map pairOf).Nodup->∀ {x:Tie},x∈ties->wOf ties (pairOf x)=x.2.2
 |y :: ties,nd,x,hx=>by
  rw[List.map_cons,List.nodup_cons]at nd
  unfold wOf
  rw[List.find?_cons]
  rcases List.mem_cons.mp hx with e | e
  ·subst e
   rw[decide_eq_true rfl]
   rfl
  ·rw[decide_eq_false (fun z=>nd.1 (by rw[z];exact List.mem_map.mpr ⟨x,e,rfl⟩))]
   exact wOf_of nd.2 e
theorem sum_perm{l m:List Int}(h:l.Perm m):l.sum=m.sum:=by
 induction h with
 |nil=>rfl
 |cons a _ ih=>rw[List.sum_cons,List.sum_cons,ih]
 |swap a b l=>rw[List.sum_cons,List.sum_cons,List.sum_cons,List.sum_cons];lia
 |trans _ _ h1 h2=>exact h1.trans h2
theorem w_sum(pw:ties.Pairwise tieLt){ks:List (List Int)}(nd:ks.Nodup)(sub:∀ k∈ks,k∈ties.map pairOf):(ks.map (wOf ties)).sum=Flw.wf ties fun x=>decide (pairOf x∈ks):=by
 have pn:=pairs_nodup pw
 have p:ks.Perm ((ties.filter fun x=>decide (pairOf x∈ks)).map pairOf):=by
  refine(List.perm_ext_iff_of_nodup nd ?_).mpr fun k=>?_
  ·exact List.Pairwise.sublist (List.Sublist.map _ List.filter_sublist) pn
  ·rw[List.mem_map]
   constructor
   ·intro h
    obtain⟨x,hx,e⟩:=List.mem_map.mp (sub k h)
    exact⟨x,List.mem_filter.mpr ⟨hx,decide_eq_true (e▸h)⟩,e⟩
   ·rintro⟨x,hx,e⟩
    rw[<- e]
    exact of_decide_eq_true (List.mem_filter.mp hx).2
 rw[sum_perm (p.map (wOf ties)),List.map_map]
 refine congrArg List.sum (List.map_congr_left fun x hx=>?_)
 exact wOf_of pn (List.mem_filter.mp hx).1
theorem or_le(p q:Bool)(w:Int)(h:0<=w):(if(p || q)=true then w else 0)<=(if p=true then w else 0)+if q=true then w else 0:=by
 cases p <;> cases q <;> simp <;> lia
theorem rim_sum:∀ (Ls:List (List Int)),(∀ x∈ties,0<=x.2.2)->Flw.wf ties (fun x=>Ls.any (crs x))<=(Ls.map (Flw.sideW ties)).sum
 |[],_=>by
  have:Flw.wf ties (fun x=>([]:List (List Int)).any (crs x))=0:=by
   unfold Flw.wf
   rw[List.filter_eq_nil_iff.mpr (fun x _ z=>by cases z)]
   rfl
  rw[this]
  exact Int.le_refl _
 |l :: Ls,h0=>by
  have ih:=rim_sum Ls h0
  rw[List.map_cons,List.sum_cons,Flw.sideW_wf]
  have key:∀ ts:List Tie,(∀ x∈ts,0<=x.2.2)->Flw.wf ts (fun x=>(l :: Ls).any (crs x))<=Flw.wf ts (fun x=>decide (x.1∈l) != decide (x.2.1∈l))+Flw.wf ts fun x=>Ls.any (crs x):=fun ts h=>by
   induction ts with
   |nil=>exact Int.le_refl _
   |cons x ts ih2 =>
    have:=ih2 fun y hy=>h y (List.mem_cons_of_mem _ hy)
    have h1:=h x List.mem_cons_self
    rw[Flw.wf_cons,Flw.wf_cons,Flw.wf_cons]
    have k:=or_le (crs x l) (Ls.any (crs x)) x.2.2 h1
    show(if(crs x l || Ls.any (crs x))=true then x.2.2 else 0)+Flw.wf ts (fun x=>(l :: Ls).any (crs x))<=(if crs x l=true then x.2.2 else 0)+Flw.wf ts (fun x=>decide (x.1∈l) != decide (x.2.1∈l))+((if Ls.any (crs x)=true then x.2.2 else 0)+Flw.wf ts fun x=>Ls.any (crs x))
    generalize (if(crs x l || Ls.any (crs x))=true then x.2.2 else 0)=a at k ⊢
    generalize (if crs x l=true then x.2.2 else 0)=b at k ⊢
    generalize (if Ls.any (crs x)=true then x.2.2 else 0)=c at k ⊢
    lia
  have:=key ties h0
  omega
theorem row_of(ok:∀ x∈ties,TieOk n x)(po:Posts n ps)(p1:1<=ps.length){ks:List (List Int)}(e:pB n ties ps ks=true):∃ h,Shk.RowF n ps h/\Flw.wf ties (Flw.two h)<=Flw.wf ties fun x=>decide (pairOf x∈ks):=by
 obtain⟨hs,IH⟩:=heads_ex (rest_ok (ks:=ks) ok)
 rw[<- pB_eq IH,parted_iff]at e
 have inj:∀ p∈ps,∀ q∈ps,hAt hs p=hAt hs q->p=q:=fun p hp q hq z=>by
  obtain⟨i,hi,rfl⟩:=List.getElem_of_mem hp
  obtain⟨j,hj,rfl⟩:=List.getElem_of_mem hq
  have:(ps.map (hAt hs))[i]'(by rw[List.length_map];exact hi)=(ps.map (hAt hs))[j]'(by rw[List.length_map];exact hj):=by rw[List.getElem_map,List.getElem_map];exact z
  have:=(List.getElem_inj e).mp this
  subst this
  rfl
 let h:Int->Int:=fun v=>(ps.find? fun p=>decide (hAt hs p=hAt hs v)).getD (ps.headD 0)
 have hin:∀ v,h v∈ps:=fun v=>by
  show(ps.find? _).getD (ps.headD 0)∈ps
  cases z:ps.find? fun p=>decide (hAt hs p=hAt hs v)with
  |none=>exact head_mem p1
  |some p=>exact List.mem_of_find?_eq_some z
 have hfix:∀ p∈ps,h p=p:=fun p hp=>by
  show(ps.find? _).getD (ps.headD 0)=p
  cases z:ps.find? fun q=>decide (hAt hs q=hAt hs p)with
  |none=>exact absurd (decide_eq_true rfl) (List.find?_eq_none.mp z p hp)
  |some q =>
   have y:=List.find?_some z
   exact inj q (List.mem_of_find?_eq_some z) p hp (of_decide_eq_true y)
 refine⟨h,⟨hfix,fun v _ _=>hin v⟩,Flw.wf_le (fun x hx=>by have:=(ok x hx).2.2.2;lia) fun x hx z=>?_⟩
 refine Classical.byContradiction fun nk=>?_
 have nk:pairOf x∉ks:=fun c=>nk (decide_eq_true c)
 obtain⟨o1,o2,o3,_⟩:=ok x hx
 have eh:hAt hs x.1=hAt hs x.2.1:=IH.same o1 (by lia) (by lia) o3 (.up (w:=x.2.2) (mem_rest.mpr ⟨hx,nk⟩) (.refl _))
 have:h x.1=h x.2.1:=by
  show(ps.find? _).getD _=(ps.find? _).getD _
  rw[eh]
 exact of_decide_eq_true z this
theorem half_sum(ok:∀ x∈ties,TieOk n x)(po:Posts n ps){xs:List (Int×List Int)}(pp:Paired (Pap n ties ps) xs ps){m:Int}(L:Shk.LeastR n ties ps m):(xs.map (·.1)).sum<=2 * m:=by
 obtain⟨h,R,e⟩:=L.some
 have s2:=Flw.sum_two (ow:=h) po.nd (ties:=ties) fun x hx=>by
  obtain⟨o1,o2,o3,_⟩:=ok x hx
  exact⟨R.inn _ o1 (by lia),R.inn _ (by lia) o3⟩
 rw[e]at s2
 rw[<- s2]
 have go:∀ {xs:List (Int×List Int)}{qs:List Int},Paired (Pap n ties ps) xs qs->(∀ q∈qs,q∈ps)->(xs.map (·.1)).sum<=(qs.map fun p=>Flw.wf ties (Flw.oneOf h p)).sum:=by
  intro xs qs h'
  induction h' with
  |nil=>intro _;exact Int.le_refl _
  | @cons x p l1 l2 r _ ih =>
   intro hq
   have i:=ih fun q z=>hq q (List.mem_cons_of_mem _ z)
   have hp:=hq p List.mem_cons_self
   have one:=r.low (Flw.cls n h p) ⟨List.Pairwise.sublist List.filter_sublist (Flw.rng_nd n),fun s hs=>by
    rw[List.mem_singleton.mp hs]
    exact Flw.mem_cls.mpr ⟨po.rg p hp,R.fix p hp⟩,fun v hv z=>by
    obtain⟨z1,z2⟩:=mem_others.mp z
    have:=(Flw.mem_cls.mp hv).2
    rw[R.fix v z1]at this
    exact z2 this,fun v hv=>(Flw.mem_cls.mp hv).1⟩
   rw[Flw.cls_side ok]at one
   rw[List.map_cons,List.map_cons,List.sum_cons,List.sum_cons]
   lia
 exact go pp fun q z=>z
theorem erase_sum:∀ {l:List Int}{d:Nat} (hd:d<l.length),(l.eraseIdx d).sum=l.sum-l[d]
 |a :: l,0,_=>by
  show l.sum=(a :: l).sum-a
  rw[List.sum_cons]
  lia
 |a :: l,d+1,hd=>by
  show(a :: l.eraseIdx d).sum=(a :: l).sum-l[d]'(Nat.lt_of_succ_lt_succ hd)
  rw[List.sum_cons,List.sum_cons,erase_sum (Nat.lt_of_succ_lt_succ hd)]
  lia
theorem sum_max{M:Int}:∀ {l:List Int},(∀ a∈l,a<=M)->l.sum<=(l.length:Int) * M
 |[],_=>by simp
 |a :: l,h=>by
  have:=sum_max fun b hb=>h b (List.mem_cons_of_mem _ hb)
  have:=h a List.mem_cons_self
  rw[List.sum_cons,List.length_cons,Int.natCast_add,Int.add_mul]
  lia
theorem map_erase{α β:Type}(g:α->β):∀ (l:List α) (d:Nat),(l.eraseIdx d).map g=(l.map g).eraseIdx d
 |[],d=>by cases d <;> rfl
 | _ :: _,0=>rfl
 |a :: l,d+1=>by
  show g a :: (l.eraseIdx d).map g=g a :: (l.map g).eraseIdx d
  rw[map_erase g l d]
theorem pap_vals:∀ {xs:List (Int×List Int)}{qs:List Int},Paired (Pap n ties ps) xs qs->xs.map (Flw.sideW ties ∘ (·.2))=xs.map (·.1)
 | _,_,.nil=>rfl
 | _,_,.cons r t=>by
  rw[List.map_cons,List.map_cons,pap_vals t]
  exact congrArg (· :: _) r.val.symm
theorem within(ok:∀ x∈ties,TieOk n x)(pw:ties.Pairwise tieLt)(po:Posts n ps){xs:List (Int×List Int)}(pp:Paired (Pap n ties ps) xs ps){d:Nat}(hd:d<xs.length)(top:∀ a∈xs.map (·.1),a<=xs[d].1){os:List (List Int)}{m:Int}(L:Shk.LeastR n ties ps m) :
  m<=((prune n ties ps os (rimK ties ((xs.map (·.2)).eraseIdx d))).map (wOf ties)).sum/\(ps.length:Int) * ((prune n ties ps os (rimK ties ((xs.map (·.2)).eraseIdx d))).map (wOf ties)).sum<=(2 * (ps.length:Int)-2) * m:=by
 have pB1:=rim_parts ok po pp d
 have pB2:=prune_parts os _ pB1
 have sub:=prune_sub (n:=n) (ties:=ties) (ps:=ps) os (rimK ties ((xs.map (·.2)).eraseIdx d))
 have xl:=pp.length
 have rs:∀ k∈rimK ties ((xs.map (·.2)).eraseIdx d),k∈ties.map pairOf:=fun k hk=>by
  obtain⟨x,hx,e⟩:=List.mem_map.mp hk
  exact List.mem_map.mpr ⟨x,(List.mem_filter.mp hx).1,e⟩
 have rn:(rimK ties ((xs.map (·.2)).eraseIdx d)).Nodup:=List.Pairwise.sublist (List.Sublist.map _ List.filter_sublist) (pairs_nodup pw)
 have nn:∀ x∈ties,0<=x.2.2:=fun x hx=>by have:=(ok x hx).2.2.2;lia
 rw[w_sum pw (List.Pairwise.sublist sub rn) fun k hk=>rs k (sub.subset hk)]
 obtain⟨h,R,hle⟩:=row_of ok po (by lia) pB2
 have low:=Int.le_trans (L.all h R) hle
 have up1:Flw.wf ties (fun x=>decide (pairOf x∈prune n ties ps os (rimK ties ((xs.map (·.2)).eraseIdx d))))<=Flw.wf ties fun x=>((xs.map (·.2)).eraseIdx d).any (crs x):=Flw.wf_le nn fun x hx z=>by
  have:=sub.subset (of_decide_eq_true z)
  obtain⟨y,hy,e⟩:=List.mem_map.mp this
  obtain⟨y1,y2⟩:=List.mem_filter.mp hy
  have ea:y.1=x.1:=by injection e
  have eb:y.2.1=x.2.1:=by
   injection e with _ e
   injection e
  have:∀ l,crs x l=crs y l:=fun l=>by unfold crs;rw[ea,eb]
  show((xs.map (·.2)).eraseIdx d).any (crs x)=true
  rw[show crs x=crs y from funext this]
  exact y2
 have up2:=rim_sum (ties:=ties) ((xs.map (·.2)).eraseIdx d) nn
 have es:(((xs.map (·.2)).eraseIdx d).map (Flw.sideW ties)).sum=(xs.map (·.1)).sum-xs[d].1:=by
  have:(xs.map (·.2)).map (Flw.sideW ties)=xs.map (·.1):=by rw[List.map_map];exact pap_vals pp
  rw[map_erase,this,erase_sum (by rw[List.length_map];exact hd),List.getElem_map]
 have hs:=half_sum ok po pp L
 have mx:=sum_max top
 rw[List.length_map,xl]at mx
 generalize Flw.wf ties (fun x=>decide (pairOf x∈prune n ties ps os (rimK ties ((xs.map (·.2)).eraseIdx d))))=W at *
 generalize (xs.map (·.1)).sum=S at *
 generalize xs[d].1=M at *
 refine⟨low,?_⟩
 have k1:1<=ps.length:=by lia
 generalize ps.length=k at *
 have a1:W<=S-M:=by lia
 have a2:=Int.mul_le_mul_of_nonneg_left a1 (show(0:Int)<=(k:Int) by lia)
 have a3:=Int.mul_le_mul_of_nonneg_left hs (show(0:Int)<=(k:Int)-1 by lia)
 rw[Int.mul_sub]at a2
 rw[Int.sub_mul,Int.one_mul]at a3
 have e1:(2 * (k:Int)-2) * m=(k:Int) * (2 * m)-2 * m:=by
  rw[Int.sub_mul,Int.mul_comm 2 (k:Int),Int.mul_assoc]
 have e2:((k:Int)-1) * (2 * m)=(k:Int) * (2 * m)-2 * m:=by rw[Int.sub_mul,Int.one_mul]
 rw[e1]
 rw[e2]at a3
 lia
end
end K19
namespace L2
open PySem PySem.W PyProof.Rows
theorem comp_enumB{b:Bool}{K:PySem.W.Frag}{l:Addr}{xs:List V}{g:TG}{tc:TT}{te:TE}{cap:List (Option Nat)}{σ:St}{H1:Hp}{Q:VK}(P:Nat->List V->Hp->Prop)(hz:xs.length<=sizeLine)(p0:P 0 [] H1)(hl:∀ i ys H,i<=xs.length->P i ys H->SqB b K H l xs)
  (hs:∀ i x zs H T,xs[i]?=some x->P i zs H->H T=none->g (.ref T) (capt cap σ) (upd H T (.tup [.int i,x])) fun σ2 H2=>Kp (capt cap σ) σ2/\tc σ2 H2 fun z H3=>if z=true then te σ2 H3 fun y H4=>P (i+1) (zs++[y]) H4 else P (i+1) zs H3)
  (hd:∀ zs H,zs.length<=xs.length->P xs.length zs H->∀ D,H D=none->Q (.ref D) (upd H D (.lst zs))):compTurns (IteB b K l) cap σ H1 Q g tc te:=by
 refine⟨xs.length,P,hz,p0,fun i zs H yl il p=>?_⟩
 have q:=hl i zs H il p
 by_cases hlt:i<xs.length
 ·refine .inr ⟨hlt,⟨xs,xs[i],q,by simp[hlt]⟩,fun x H' y=>?_⟩
  obtain⟨T,x',e1,hT,e2,y⟩:=y
  subst e1
  subst e2
  exact hs i x' zs H T (y xs q) p hT
 ·have e:i=xs.length:=by lia
  subst e
  exact .inl ⟨⟨xs,q,Nat.le_refl _⟩,hd zs H yl p⟩
end L2
namespace K19
open PySem L2 PyProof.Rows
noncomputable def PpAt(H:Hp)(x:Told)(z:Int×List Int):Prop:=H x.r=some (.tup [.int z.1,.ref x.a,.ref x.s])/\H x.s=some (.lst (z.2.map V.int))
noncomputable def papL(ties:List Tie):List Told->List Int->List (Int×List Int)
 |x :: xs,p :: ps=>(Flw.val ties x.am [p],x.side) :: papL ties xs ps
 | _,_=>[]
theorem pap_at{H:Hp}{n:Nat}{ties:List Tie}{ps:List Int}:∀ {xs:List Told}{qs:List Int},Paired (ToldAt H n ties ps) xs qs->Paired (PpAt H) xs (papL ties xs qs)
 | _,_,.nil=>.nil
 | _,_,.cons r t=>.cons ⟨r.gr,r.gs⟩ (pap_at t)
theorem pap_ok{H:Hp}{n:Nat}{ties:List Tie}{ps:List Int}(ok:∀ x∈ties,TieOk n x)(po:Posts n ps):∀ {xs:List Told}{qs:List Int},Paired (ToldAt H n ties ps) xs qs->(∀ q∈qs,q∈ps)->Paired (Pap n ties ps) (papL ties xs qs) qs
 | _,_,.nil,_=>.nil
 | _,_,.cons r t,h=>.cons (Pap.of ok po (h _ List.mem_cons_self) r.ok) (pap_ok ok po t fun q hq=>h q (List.mem_cons_of_mem _ hq))
inductive spPbI(B:Addr)(vs:List V)(H:Hp)(Q:VK):Prop where
 |mk (t q l:Addr) (n:Nat) (ties:List Tie) (b:Bool) (ps:List Int) (xs:List Told) (zs:List (Int×List Int)) (h1:vs=[.ref t,.ref q,.ref l]) (h2:WebAt H t n ties) (h3:(∀ x∈ties,TieOk n x)) (h4:ties.Pairwise tieLt) (h5:n<=60) (h6:H q=some (sqO b (ps.map V.int))) (h7:Posts n ps) (h8:1<=ps.length) (h9:ps.length<=7) (h10:H l=some (.lst (xs.map fun x=>V.ref x.r))) (h11:Paired (PpAt H) xs zs) (h12:Paired (Pap n ties ps) zs ps) (h13:TabH B lamPos lamQ H) (h14:∀ (r c:Addr) (w:Int) (H':Hp),H' r=some (.tup [.int w,.ref c])->(∀ m,Shk.LeastR n ties ps m->m<=w/\(ps.length:Int) * w<=(2 * (ps.length:Int)-2) * m)->BytP B H H'->TabH B lamPos lamQ H'->Q (.ref r) H')
noncomputable def spPb(B:Addr):Sp:=fun vs H Q _=>spPbI B vs H Q
theorem first_at:∀ {ns:List Int}{m:Int},m∈ns->∃ j:Nat,ns[j]?=some m/\∀ i:Nat,i<j->ns[i]?≠some m
 |a :: ns,m,h=>by
  by_cases e:a=m
  ·exact⟨0,by rw[e];rfl,fun i hi=>absurd hi (Nat.not_lt_zero _)⟩
  ·obtain⟨j,h1,h2⟩:=first_at ((List.mem_cons.mp h).resolve_left fun z=>e z.symm)
   refine⟨j+1,h1,fun i hi=>?_⟩
   cases i with
   |zero=>exact fun z=>e (Option.some.inj z)
   |succ i=>exact h2 i (Nat.lt_of_succ_lt_succ hi)
theorem erase_snoc{α:Type}{a:α}:∀ (l:List α) (d:Nat),(l++[a]).eraseIdx d=if l.length=d then l.eraseIdx d else l.eraseIdx d++[a]
 |[],0=>rfl
 |[],d+1=>rfl
 |x :: l,0=>rfl
 |x :: l,d+1=>by
  show x :: (l++[a]).eraseIdx d=if l.length+1=d+1 then x :: l.eraseIdx d else x :: l.eraseIdx d++[a]
  rw[erase_snoc l d]
  by_cases h:l.length=d
  ·rw[if_pos h,if_pos (by rw[h])]
  ·rw[if_neg h,if_neg (fun z=>h (Nat.succ.inj z))]
   rfl
section
variable{P:Program}{w:World}{K:PySem.W.Frag}{mg:Str->Option Value}{base:Heap}
noncomputable abbrev nPb:List Str:=["web","posts","papers","values","dearest","sides","cut"]
theorem scPb:FnScope nPb ["web","posts","papers"] (defScope sPartingBy):=⟨rfl,rfl,rfl,by decide +kernel,rfl,by decide +kernel,by decide +kernel⟩
theorem csPb1:CompScope ["paper"] [none] nPb (defScope sPartingBy) (scO [(".0",.local),("paper",.local)]):=⟨rfl,by decide +kernel,by decide +kernel,by decide +kernel,rfl,capB_ok (by decide +kernel)⟩
theorem ndPb1:(["paper"]:List Str).Nodup:=by decide +kernel
theorem csPb2:CompScope ["at","value","amounts","side","dearest"] [none,none,none,none,some 4] nPb (defScope sPartingBy) (scO [(".0",.local),("at",.local),("value",.local),("amounts",.local),("side",.local),("dearest",.free)]):=⟨rfl,by decide +kernel,by decide +kernel,by decide +kernel,rfl,capB_ok (by decide +kernel)⟩
theorem ndPb2:(["at","value","amounts","side","dearest"]:List Str).Nodup:=by decide +kernel
theorem ok_pb{f g1 g2 g3 B:Addr}{fd d1 d2 d3:FuncData}(F:Fun K "parting_by" "parting_by" sPartingBy f fd)(T:Txt mg)(T2:Txt2 mg)(GP:CalF P w K mg base 4 "pruned" ["web","posts","cut"] (spPr B) g1 d1)(GR:CalF P w K mg base 1 "rim_of" ["web","sides"] spRm g2 d2)(GW:CalF P w K mg base 2 "weight_of" ["web","cut"] (spWO K) g3 d3):FnOk P w K mg base CX0 5 f fd ["web","posts","papers"] (spPb B):=by
 refine F.ok scPb (fun vs H Q E h=>?_) (fun cdv A outer s H vs Q E hr h=>?_)
 ·obtain⟨t,q,l,n,ties,b,ps,xs,zs,rfl,_⟩:=h
  rfl
 ·obtain⟨t,q,l,n,ties,b,ps,xs,zs,rfl,W,ok,pw,nb,gq,po,p1,p7,gl,px,pz,TB,fin⟩:=h
  have hr4:Room 4 _:=hr
  have hr2:Room 2 _:=hr.mono (by decide)
  have hr1:Room 1 _:=hr.mono (by decide)
  refine⟨_,(pss_cons (ps_comp (i:=3) scPb.nd rfl (Or.inl rfl) rfl csPb1 (pi_list (pv 2)) (fun C s H fp=>(pg_name (i:=0) ndPb1 rfl (Or.inl rfl))) (fun C s H fp=>pf_nil) (fun C s H fp=>(@pe_ix _ _ _ _ _ _ _ ix_tupH (pv 0) pe_int (fun _ _=>rfl))))
   (pss_cons (ps_set (i:=4) scPb.nd rfl (Or.inr rfl) (pe_bmH PySem.F.slot_list_index PySem.F.type_list_index mt_indexI (pv 3) (@pa_call _ _ _ _ _ _ _ _ (pe_callB (call_maxLH rfl) (by rfl) T.max boot_max (@pa_nam _ _ _ _ _ _ (pv 3) pa_nil)) pa_nil)))
   (pss_cons (ps_comp (i:=5) scPb.nd rfl (Or.inl rfl) rfl csPb2 (pi_enumB false rfl T2.enum (@pa_nam _ _ _ _ _ _ (pv 2) pa_nil)) (fun C s H fp=>(pg_tupK K rfl (n:=2) rfl (pgs_cons (pg_name (i:=0) ndPb2 rfl (Or.inl rfl)) (pgs_cons (pg_tupK K rfl (n:=3) rfl (pgs_cons (pg_name (i:=1) ndPb2 rfl (Or.inl rfl)) (pgs_cons (pg_name (i:=2) ndPb2 rfl (Or.inl rfl)) (pgs_cons (pg_name (i:=3) ndPb2 rfl (Or.inl rfl)) pgs_nil))) rfl rfl) pgs_nil)) rfl rfl)) (fun C s H fp=>(pf_one (pt_cmpR op_ne (pv 0) (pv 4) (nomark _)))) (fun C s H fp=>(pv 3)))
   (pss_cons (ps_set (i:=6) scPb.nd rfl (Or.inl rfl) (pe_call GP.ok hr4 rfl GP.mg GP.kp GP.bd .nil pass0 (@pa_nam _ _ _ _ _ _ (pv 0) (@pa_nam _ _ _ _ _ _ (pv 1) (@pa_call _ _ _ _ _ _ _ _ (pe_call GR.ok hr1 rfl GR.mg GR.kp GR.bd .nil pass0 (@pa_nam _ _ _ _ _ _ (pv 0) (@pa_nam _ _ _ _ _ _ (pv 5) pa_nil))) pa_nil)))))
   (pss_one (ps_ret (@pe_tup _ _ _ _ _ (@pa_call _ _ _ _ _ _ _ _ (pe_call GW.ok hr2 rfl GW.mg GW.kp GW.bd .nil pass0 (@pa_nam _ _ _ _ _ _ (pv 0) (@pa_nam _ _ _ _ _ _ (pv 6) pa_nil))) (@pa_nam _ _ _ _ _ _ (pv 6) pa_nil))))))))),?_⟩
  have xl:=px.length
  have zl:=pz.length
  refine⟨_,rfl,l,rfl,⟨_,SqL.of gl⟩,?_⟩
  refine comp_list (K:=K) (a:=l) (xs:=xs.map fun x=>V.ref x.r) (fun i ys G=>G=H/\ys=((zs.take i).map (·.1)).map V.int) (by rw[List.length_map,sizeLine_eq];lia) ⟨rfl,rfl⟩ (fun i ys G _ z=>by rw[z.1];exact SqL.of gl) ?_ ?_
  ·rintro i x ys G hx ⟨rfl,rfl⟩
   obtain⟨il,e⟩:=List.getElem?_eq_some_iff.mp hx
   rw[List.length_map]at il
   rw[List.getElem_map]at e
   subst e
   have iz:i<zs.length:=by lia
   have gx:=(Paired.at px i il iz).1
   refine⟨trivial,tTru_if ⟨_,rfl,xs[i].r,_,_,_,rfl,rfl,gx,at0,rfl,?_⟩⟩
   rw[List.take_succ_eq_append_getElem iz,List.map_append,List.map_append]
   rfl
  rintro ys G _ ⟨rfl,rfl⟩ vl hvl
  have et:zs.take (xs.map fun x=>V.ref x.r).length=zs:=List.take_of_length_le (by rw[List.length_map];lia)
  rw[et]
  have sv:=Same.new (o:=.lst ((zs.map (·.1)).map V.int)) hvl
  have gv:(upd G vl (.lst ((zs.map (·.1)).map V.int))) vl=some (.lst ((zs.map (·.1)).map V.int)):=upd_same
  generalize (upd G vl (.lst ((zs.map (·.1)).map V.int)))=H1 at sv gv
  refine⟨_,rfl,⟨vl,_,rfl,gv⟩,_,rfl,vl,_,rfl,gv,fun z=>?_,fun m hm le=>?_⟩
  ·rw[List.map_eq_nil_iff]at z
   rw[z]at zl
   rw[<- zl]at p1
   exact absurd p1 (by decide)
  obtain⟨d,hd,first⟩:=first_at hm
  refine⟨vl,_,m,d,rfl,rfl,gv,hd,first,?_⟩
  obtain⟨dl,ed⟩:=List.getElem?_eq_some_iff.mp hd
  rw[List.length_map]at dl
  rw[List.getElem_map]at ed
  refine⟨_,rfl,l,rfl,⟨_,SqL.of (sv _ _ gl)⟩,?_⟩
  refine comp_enumB (K:=K) (b:=false) (l:=l) (xs:=xs.map fun x=>V.ref x.r) (fun i ys G=>Same H1 G/\∃ cs:List Addr,ys=cs.map V.ref/\LsAt G cs (((zs.map (·.2)).take i).eraseIdx d)) (by rw[List.length_map,sizeLine_eq];lia) ⟨Same.refl _,[],rfl,by rw[List.take_zero];exact .nil⟩ (fun i ys G _ z=>SqL.of (z.1 _ _ (sv _ _ gl))) ?_ ?_
  ·rintro i x ys G2 U hx ⟨sG,cs,rfl,pc⟩ hU
   obtain⟨il,e⟩:=List.getElem?_eq_some_iff.mp hx
   rw[List.length_map]at il
   rw[List.getElem_map]at e
   subst e
   have iz:i<zs.length:=by lia
   obtain⟨g1,g2⟩:=Paired.at px i il iz
   have sU:=Same.new (o:=.tup [V.int i,.ref xs[i].r]) hU
   have s2:=sG.trans sU
   have g1':=s2 _ _ (sv _ _ g1)
   have g2':=s2 _ _ (sv _ _ g2)
   have pc2:LsAt (upd G2 U (.tup [V.int i,.ref xs[i].r])) cs (((zs.map (·.2)).take i).eraseIdx d):=pc.same sU
   refine⟨U,_,rfl,SqT.of upd_same,rfl,_,_,rfl,⟨_,_,rfl,xs[i].r,_,rfl,SqT.of g1',rfl,_,_,rfl,_,_,rfl,_,_,rfl,rfl,rfl,?_⟩⟩
   generalize (upd G2 U (.tup [V.int i,.ref xs[i].r]))=G3 at s2 g1' g2' pc2
   have im:i <(zs.map (·.2)).length:=by rw[List.length_map];exact iz
   have tl:((zs.map (·.2)).take i).length=i:=by rw[List.length_take];lia
   rw[List.take_succ_eq_append_getElem im,erase_snoc,tl,List.getElem_map]
   refine⟨⟨rfl,trivial⟩,_,rfl,_,rfl,rfl,_,rfl,?_⟩
   by_cases c:i=d
   ·subst c
    rw[if_pos rfl,decide_eq_true rfl]
    exact iteF ⟨s2,cs,rfl,pc2⟩
   ·rw[if_neg c,decide_eq_false (fun z=>c (by injection z with z;lia))]
    refine iteT ⟨_,rfl,s2,cs++[xs[i].s],by rw[List.map_append];rfl,?_⟩
    exact Paired.snoc pc2 g2'
  rintro ys G2 _ ⟨sG,cs,rfl,pc⟩ sl hsl
  have et2:(zs.map (·.2)).take (xs.map fun x=>V.ref x.r).length=zs.map (·.2):=List.take_of_length_le (by rw[List.length_map,List.length_map];lia)
  rw[et2]at pc
  have ssl:=Same.new (o:=.lst (cs.map V.ref)) hsl
  have gsl:(upd G2 sl (.lst (cs.map V.ref))) sl=some (.lst (cs.map V.ref)):=upd_same
  have pc3:=pc.same ssl
  have s3:=sv.trans (sG.trans ssl)
  generalize (upd G2 sl (.lst (cs.map V.ref)))=H3 at gsl pc3 s3
  have Ll:((zs.map (·.2)).eraseIdx d).length<=1000:=by
   have:=List.length_eraseIdx_le (zs.map (·.2)) d
   rw[List.length_map]at this
   lia
  refine⟨_,rfl,_,rfl,_,rfl,_,rfl,t,sl,n,ties,cs,(zs.map (·.2)).eraseIdx d,rfl,W.same s3,gsl,pc3,Ll,fun rl rcs H4 hrl grl trl s34=>?_⟩
  have s4:=s3.trans s34
  have rs:∀ k∈rimK ties ((zs.map (·.2)).eraseIdx d),k∈ties.map pairOf:=fun k hk=>by
   obtain⟨x,hx,e⟩:=List.mem_map.mp hk
   exact List.mem_map.mpr ⟨x,(List.mem_filter.mp hx).1,e⟩
  have rl120:(rimK ties ((zs.map (·.2)).eraseIdx d)).length<=60:=by
   unfold rimK
   rw[List.length_map]
   have:=List.length_filter_le (fun x=>((zs.map (·.2)).eraseIdx d).any (crs x)) ties
   have:=W.2
   lia
  refine⟨t,q,rl,n,ties,b,false,ps,rcs,rimK ties ((zs.map (·.2)).eraseIdx d),rfl,W.same s4,ok,pw,by lia,s4 _ _ gq,po.rg,by lia,grl,trl,rs,rl120,TB.same s4,fun c cas os H5 hc gc tc _ b45 TB5=>?_⟩
  have b05:=(BytP.of s4).trans b45
  have W5:=W.byt TB b05
  have psub:=prune_sub (n:=n) (ties:=ties) (ps:=ps) os (rimK ties ((zs.map (·.2)).eraseIdx d))
  refine⟨_,rfl,_,rfl,t,c,n,ties,_,rfl,W5,pw,⟨false,cas,SqL.of gc,tc,?_⟩,fun k hk=>rs k (psub.subset hk),fun H6 s56=>?_⟩
  ·have:=psub.length_le
   lia
  refine⟨_,rfl,(by show 2<=sizeLine;decide),fun r hr'=>?_⟩
  have s6r:=s56.trans (Same.new (o:=.tup [.int ((prune n ties ps os (rimK ties ((zs.map (·.2)).eraseIdx d))).map (wOf ties)).sum,.ref c]) hr')
  exact fin r c _ _ upd_same (fun m' L=>within ok pw po pz dl (fun x hx=>by rw[ed];exact le x hx) L) (b05.trans (BytP.of s6r)) (TB5.same s6r)
end
end K19
namespace L2
open PySem PySem.W PyProof.Rows
variable{X:Cx}{pos:Pos}
end L2
namespace K19
open PySem L2 PyProof.Rows
inductive spBsI(B:Addr)(vs:List V)(H:Hp)(Q:VK):Prop where
 |mk (t q:Addr) (n:Nat) (ties:List Tie) (b:Bool) (ps:List Int) (h1:vs=[.ref t,.ref q]) (h2:WebAt H t n ties) (h3:(∀ x∈ties,TieOk n x)) (h4:ties.Pairwise tieLt) (h5:n<=60) (h6:H q=some (sqO b (ps.map V.int))) (h7:Posts n ps) (h8:1<=ps.length) (h9:ps.length<=7) (h10:TabH B lamPos lamQ H) (h11:∀ (r c l:Addr) (w:Int) (xs:List Told) (zs:List (Int×List Int)) (H':Hp),H' r=some (.tup [.int w,.ref c,.ref l])->(∀ m,Shk.LeastR n ties ps m->m<=w/\(ps.length:Int) * w<=(2 * (ps.length:Int)-2) * m)->H' l=some (.lst (xs.map fun x=>V.ref x.r))->Paired (PpAt H') xs zs->Paired (Pap n ties ps) zs ps->BytP B H H'->TabH B lamPos lamQ H'->Q (.ref r) H')
noncomputable def spBs(B:Addr):Sp:=fun vs H Q _=>spBsI B vs H Q
section
variable{P:Program}{w:World}{K:PySem.W.Frag}{mg:Str->Option Value}{base:Heap}
noncomputable abbrev nBs:List Str:=["web","posts","papers"]
theorem scBs:FnScope nBs ["web","posts"] (defScope sBySingles):=⟨rfl,rfl,rfl,by decide +kernel,rfl,by decide +kernel,by decide +kernel⟩
theorem ok_bs{f g1 g2 B:Addr}{fd d1 d2:FuncData}(F:Fun K "by_singles" "by_singles" sBySingles f fd)(GS:CalF P w K mg base 5 "singles" ["web","posts"] spSg g1 d1)(GB:CalF P w K mg base 5 "parting_by" ["web","posts","papers"] (spPb B) g2 d2):FnOk P w K mg base CX0 6 f fd ["web","posts"] (spBs B):=by
 refine F.ok scBs (fun vs H Q E h=>?_) (fun cdv A outer s H vs Q E hr h=>?_)
 ·obtain⟨t,q,n,ties,b,ps,rfl,_⟩:=h
  rfl
 ·obtain⟨t,q,n,ties,b,ps,rfl,W,ok,pw,nb,gq,po,p1,p7,TB,fin⟩:=h
  have hr5:Room 5 _:=hr
  refine⟨_,(pss_cons (ps_set (i:=2) scBs.nd rfl (Or.inl rfl) (pe_call GS.ok hr5 rfl GS.mg GS.kp GS.bd .nil pass0 (@pa_nam _ _ _ _ _ _ (pv 0) (@pa_nam _ _ _ _ _ _ (pv 1) pa_nil))))
   (pss_one (ps_ret (pe_op op_catT (pe_call GB.ok hr5 rfl GB.mg GB.kp GB.bd .nil pass0 (@pa_nam _ _ _ _ _ _ (pv 0) (@pa_nam _ _ _ _ _ _ (pv 1) (@pa_nam _ _ _ _ _ _ (pv 2) pa_nil)))) (@pe_tup _ _ _ _ _ (@pa_nam _ _ _ _ _ _ (pv 2) pa_nil)))))),?_⟩
  refine⟨_,rfl,_,rfl,t,q,n,ties,b,ps,rfl,W,ok,nb,gq,po,fun l xs H1 hl gl px nd fr nl s1=>?_⟩
  have pa:=pap_at px
  have pk:=pap_ok ok po px fun q hq=>hq
  refine⟨_,rfl,_,rfl,_,rfl,t,q,l,n,ties,b,ps,xs,papL ties xs ps,rfl,W.same s1,ok,pw,nb,s1 _ _ gq,po,p1,p7,gl,pa,pk,TB.same s1,fun r c wg H2 gr hw b12 TB2=>?_⟩
  refine⟨_,rfl,(by show 1<=sizeLine;decide),fun tp htp=>?_⟩
  have stp:=Same.new (o:=.tup [.ref l]) htp
  have TB1:=TB.same s1
  have b02:=(BytP.of (P:=B) s1).trans b12
  refine⟨r,tp,_,_,rfl,rfl,SqT.of (stp _ _ gr),SqT.of upd_same,(by intro z;cases z),(by show 2+1<=sizeLine;decide),(fun z=>by cases z),fun _ rr hrr=>?_⟩
  have srr:=Same.new (o:=.tup ([.int wg,.ref c]++[.ref l])) hrr
  have s23:=stp.trans srr
  have ne:∀ {a:Addr}{o:HO},H1 a=some o->(∀ ps,o≠.tbl ps)->_:=fun {a o} e no=>s23 _ _ (b12 _ _ (TB1.ne e no) e)
  refine fin rr c l wg xs (papL ties xs ps) _ upd_same hw (ne gl (fun ps z=>by cases z)) (Paired.mapP pa fun x z h=>⟨ne h.1 (fun ps z=>by cases z),ne h.2 (fun ps z=>by cases z)⟩) pk (b02.trans (BytP.of s23)) (TB2.same s23)
end
open PySem L2 PyProof.Rows
noncomputable def tieK(x:Tie):List Int:=[x.1,x.2.1,x.2.2]
noncomputable def untie:List Int->Tie
 |[a,b,c]=>(a,b,c)
 | _=>(0,0,0)
theorem untie_K(x:Tie):untie (tieK x)=x:=rfl
theorem paired_map{α β γ:Type}{F:α->γ->Prop}{f:β->γ}:∀ {l:List α}{m:List β},Paired F l (m.map f)->Paired (fun a x=>F a (f x)) l m
 |[],[],_=>.nil
 |a :: l,x :: m,.cons h t=>.cons h (paired_map t)
 |[],_ :: _,h=>nomatch h
 | _ :: _,[],h=>nomatch h
theorem tups_perm{H:Hp}{bs:List Addr}{ns:List (List Int)}{ties:List Tie}(tb:TupsAt H bs ns)(pm:ns.Perm (ties.map tieK)):∃ ts:List Tie,Paired (fun a x=>H a=some (.tup (tieV x))) bs ts/\ts.Perm ties/\ns=ts.map tieK:=by
 have e:ns=(ns.map untie).map tieK:=by
  have:∀ k∈ns,k=tieK (untie k):=fun k hk=>by
   obtain⟨x,_,e⟩:=List.mem_map.mp (pm.mem_iff.mp hk)
   rw[<- e,untie_K]
  rw[List.map_map]
  exact(List.map_id ns).symm.trans (List.map_congr_left fun k hk=>this k hk)
 refine⟨ns.map untie,?_,?_,e⟩
 ·rw[e]at tb
  exact paired_map (f:=tieK) (F:=fun a k=>H a=some (.tup (List.map V.int k))) tb
 ·have:=pm.map untie
  rw[List.map_map]at this
  have ei:(untie ∘ tieK)=id:=funext untie_K
  rw[ei,List.map_id]at this
  exact this
theorem strict_of{ts:List Tie}(h:(ts.map tieK).Pairwise fun x y=>Srt.lexlt y x=false)(nd:(ts.map fun x=>(x.1,x.2.1)).Nodup):ts.Pairwise tieLt:=by
 rw[List.pairwise_map]at h
 have nd':=List.pairwise_map.mp nd
 refine(h.and nd').imp fun {x y} z=>?_
 obtain⟨z1,z2⟩:=z
 obtain⟨a,b,c⟩:=x
 obtain⟨d,e,f⟩:=y
 have z3:¬(a=d/\b=e):=fun u=>z2 (by rw[u.1,u.2])
 unfold tieLt
 simp only[tieK,Srt.lexlt]at z1 ⊢
 by_cases u:a=d
 ·have v:¬ b=e:=fun v=>z3 ⟨u,v⟩
  simp[u,v,Ne.symm v]at z1 ⊢
  lia
 ·simp[u,Ne.symm u]at z1 ⊢
  lia
theorem ties_tups{H:Hp}:∀ {as:List Addr}{ties:List Tie},Paired (fun a x=>H a=some (.tup (tieV x))) as ties->TupsAt H as (ties.map tieK)
 | _,_,.nil=>.nil
 | _,_,.cons h t=>.cons h (ties_tups t)
noncomputable def inr(k:Nat)(w:Int):List Tie:=(List.range k).map fun(i:Nat)=>((i:Int),(k:Int),w)
noncomputable def rnd(k:Nat)(w:Int):List Tie:=(List.range k).map fun(i:Nat)=>((i:Int),(i:Int)+1,w)
noncomputable def whl(k:Nat)(r i:Int):List Tie:=inr k i++rnd (k-1) r++[(0,(k:Int)-1,r)]
theorem whl_ok{k:Nat}{r i:Int}(k3:3<=k)(r1:1<=r)(i1:1<=i):∀ x∈whl k r i,TieOk (k+1) x:=fun x hx=>by
 unfold whl inr rnd at hx
 rcases List.mem_append.mp hx with hx | hx
 ·rcases List.mem_append.mp hx with hx | hx
  ·obtain⟨j,hj,rfl⟩:=List.mem_map.mp hx
   have:=List.mem_range.mp hj
   exact⟨by show(0:Int)<=(j:Int);lia,by show(j:Int) <(k:Int);lia,by show(k:Int) <((k+1:Nat):Int);lia,i1⟩
  ·obtain⟨j,hj,rfl⟩:=List.mem_map.mp hx
   have:=List.mem_range.mp hj
   exact⟨by show(0:Int)<=(j:Int);lia,by show(j:Int) <(j:Int)+1;lia,by show(j:Int)+1 <((k+1:Nat):Int);omega,r1⟩
 ·rw[List.mem_singleton.mp hx]
  exact⟨by show(0:Int)<=0;lia,by show(0:Int) <(k:Int)-1;lia,by show(k:Int)-1 <((k+1:Nat):Int);lia,r1⟩
theorem whl_nd{k:Nat}{r i:Int}(k3:3<=k)(k6:k<=6):((whl k r i).map fun x=>(x.1,x.2.1)).Nodup:=by
 have e:k=3\/k=4\/k=5\/k=6:=by lia
 rcases e with rfl | rfl | rfl | rfl <;> (unfold whl inr rnd;simp[List.range_succ])
theorem whl_len{k:Nat}{r i:Int}(k3:3<=k):(whl k r i).length=2 * k:=by
 unfold whl inr rnd
 rw[List.length_append,List.length_append,List.length_map,List.length_map,List.length_range,List.length_range,List.length_singleton]
 lia
inductive spWhI(vs:List V)(H:Hp)(Q:VK):Prop where
 |mk (p:Addr) (N:Nat) (h1:vs=[.ref p]) (h2:BoxAt H p N) (h3:N+1000<2 ^ 40) (h4:∀ (r t l:Addr) (n:Nat) (ties:List Tie) (ps:List Int) (H':Hp),H' r=some (.tup [.ref t,.ref l])->3<=n->n<=7->WebAt H' t n ties->(∀ x∈ties,TieOk n x)->ties.Pairwise tieLt->H' l=some (.lst (ps.map V.int))->PostOk n ps->2<=ps.length->ps.length<=4->BoxAt H' p (N+30)->Kept p H H'->Q (.ref r) H')
noncomputable def spWh:Sp:=fun vs H Q _=>spWhI vs H Q
noncomputable def WhI(p l3 pl:Addr)(H:Hp)(N k:Nat)(as:List Addr)(W:List Tie)(a r i:Int)(m:Nat)(σ:L2.St)(G:Hp):Prop:=∃ ps:List Int,m=ps.length/\σ=[some (.ref p),some (.int a),some (.int r),some (.int i),some (.ref l3),some (.ref pl)]/\BoxAt G p (N+3+2 * (6-ps.length))/\Kept p H G/\G pl=some (.lst (ps.map V.int))/\G l3=some (.lst (as.map V.ref))/\Paired (fun a x=>G a=some (.tup (tieV x))) as W/\ps.Nodup/\(∀ x∈ps,0<=x/\x <(k:Int))/\2<=ps.length/\ps.length<=6
section
variable{P:Program}{w:World}{K:PySem.W.Frag}{mg:Str->Option Value}{base:Heap}
noncomputable abbrev nWh:List Str:=["_law_box_here","_law_around","_law_rim","_law_inner","_law_ties","_law_posts_here"]
theorem scWh:FnScope nWh ["_law_box_here"] (defScope sWheel):=⟨rfl,rfl,rfl,by decide +kernel,rfl,by decide +kernel,by decide +kernel⟩
theorem csWh1:CompScope ["_law_place","_law_around","_law_inner"] [none,some 1,some 3] nWh (defScope sWheel) (scO [(".0",.local),("_law_place",.local),("_law_around",.free),("_law_inner",.free)]):=⟨rfl,by decide +kernel,by decide +kernel,by decide +kernel,rfl,capB_ok (by decide +kernel)⟩
theorem ndWh1:(["_law_place","_law_around","_law_inner"]:List Str).Nodup:=by decide +kernel
theorem csWh2:CompScope ["_law_place","_law_rim"] [none,some 2] nWh (defScope sWheel) (scO [(".0",.local),("_law_place",.local),("_law_rim",.free)]):=⟨rfl,by decide +kernel,by decide +kernel,by decide +kernel,rfl,capB_ok (by decide +kernel)⟩
theorem ndWh2:(["_law_place","_law_rim"]:List Str).Nodup:=by decide +kernel
theorem ok_wh{f g:Addr}{fd gd:FuncData}(F:Fun K "_law_wheel" "_law_wheel" sWheel f fd)(T:Txt mg)(TK:TakeF P w K mg base g gd):FnOk P w K mg base CX0 2 f fd ["_law_box_here"] spWh:=by
 refine F.ok scWh (fun vs H Q E h=>?_) (fun cdv A outer s H vs Q E hr h=>?_)
 ·obtain⟨p,N,rfl,_⟩:=h
  rfl
 ·obtain⟨p,N,rfl,B,hN,fin⟩:=h
  have hr1:Room 1 _:=hr
  refine⟨_,(pss_cons (ps_set (i:=1) scWh.nd rfl (Or.inr rfl) (pe_op op_add pe_int (pe_call TK.ok hr1 rfl TK.mg TK.kp TK.bd .nil pass0 (@pa_nam _ _ _ _ _ _ (pv 0) (@pa_cst _ _ _ _ _ _ _ pe_int pa_nil)))))
   (pss_cons (ps_asg (@pe_tup _ _ _ _ _ (@pa_bin _ _ _ _ _ _ _ _ (pe_op op_add pe_int (pe_call TK.ok hr1 rfl TK.mg TK.kp TK.bd .nil pass0 (@pa_nam _ _ _ _ _ _ (pv 0) (@pa_cst _ _ _ _ _ _ _ pe_int pa_nil)))) (@pa_bin _ _ _ _ _ _ _ _ (pe_op op_add pe_int (pe_call TK.ok hr1 rfl TK.mg TK.kp TK.bd .nil pass0 (@pa_nam _ _ _ _ _ _ (pv 0) (@pa_cst _ _ _ _ _ _ _ pe_int pa_nil)))) pa_nil))) (pg_tup (n:=2) rfl (pgs_cons (pg_name (i:=2) scWh.nd rfl (Or.inr rfl)) (pgs_cons (pg_name (i:=3) scWh.nd rfl (Or.inr rfl)) pgs_nil))))
   (pss_cons (ps_comp (i:=4) scWh.nd rfl (Or.inl rfl) rfl csWh1 (pi_range1 rfl T.range (@pa_nam _ _ _ _ _ _ (pv 1) pa_nil)) (fun C s H fp=>(pg_name (i:=0) ndWh1 rfl (Or.inl rfl))) (fun C s H fp=>pf_nil) (fun C s H fp=>(@pe_tup _ _ _ _ _ (@pa_nam _ _ _ _ _ _ (pv 0) (@pa_nam _ _ _ _ _ _ (pv 1) (@pa_nam _ _ _ _ _ _ (pv 2) pa_nil))))))
   (pss_cons (ps_set (i:=4) scWh.nd rfl (Or.inl rfl) (pe_op op_cat (pe_op op_cat (pv 4) (pe_comp rfl csWh2 (pi_range1 rfl T.range (@pa_bin _ _ _ _ _ _ _ _ (pe_op op_sub (pv 1) pe_int) pa_nil)) (fun C s H fp=>(pg_name (i:=0) ndWh2 rfl (Or.inl rfl))) (fun C s H fp=>pf_nil) (fun C s H fp=>(@pe_tup _ _ _ _ _ (@pa_nam _ _ _ _ _ _ (pv 0) (@pa_bin _ _ _ _ _ _ _ _ (pe_op op_add (pv 0) pe_int) (@pa_nam _ _ _ _ _ _ (pv 1) pa_nil))))))) (@pe_lst _ _ _ _ (@pa_tup _ _ _ _ _ _ _ (@pe_tup _ _ _ _ _ (@pa_cst _ _ _ _ _ _ _ pe_int (@pa_bin _ _ _ _ _ _ _ _ (pe_op op_sub (pv 1) pe_int) (@pa_nam _ _ _ _ _ _ (pv 2) pa_nil)))) pa_nil))))
   (pss_cons (ps_set (i:=5) scWh.nd rfl (Or.inl rfl) (pe_callTy (call_list_rng rfl) (by rfl) T.list boot_list (@pa_call _ _ _ _ _ _ _ _ (pe_callTy (call_range _) (by rfl) T.range boot_range (@pa_nam _ _ _ _ _ _ (pv 1) pa_nil)) pa_nil)))
   (pss_cons (ps_while PassesOwn.never (PW.pt (pw_or (pt_cmpR op_gt (pe_callB call_lenH (by rfl) T.len PySem.boot_len (@pa_nam _ _ _ _ _ _ (pv 5) pa_nil)) pe_int (nomark _)) (pw_or1 (PW.pt (pw_and (pt_cmpR op_gt (pe_callB call_lenH (by rfl) T.len PySem.boot_len (@pa_nam _ _ _ _ _ _ (pv 5) pa_nil)) pe_int (nomark _)) (pw_and1 (pt_cmpR op_eq (pe_call TK.ok hr1 rfl TK.mg TK.kp TK.bd .nil pass0 (@pa_nam _ _ _ _ _ _ (pv 0) (@pa_cst _ _ _ _ _ _ _ pe_int pa_nil))) pe_int (nomark _)))))))) (pss_one (ps_expr (pe_bmH PySem.F.slot_list_pop PySem.F.type_list_pop mt_popAt (pv 5) (@pa_call _ _ _ _ _ _ _ _ (pe_call TK.ok hr1 rfl TK.mg TK.kp TK.bd .nil pass0 (@pa_nam _ _ _ _ _ _ (pv 0) (@pa_call _ _ _ _ _ _ _ _ (pe_callB call_lenH (by rfl) T.len PySem.boot_len (@pa_nam _ _ _ _ _ _ (pv 5) pa_nil)) pa_nil))) pa_nil)))))
   (pss_one (ps_ret (@pe_tup _ _ _ _ _ (@pa_tup _ _ _ _ _ _ _ (@pe_tup _ _ _ _ _ (@pa_bin _ _ _ _ _ _ _ _ (pe_op op_add (pv 1) pe_int) (@pa_call _ _ _ _ _ _ _ _ (pe_callTy call_tupleH (by rfl) T.tuple boot_tuple (@pa_call _ _ _ _ _ _ _ _ (pe_callB call_sortedT (by rfl) T.sorted boot_sorted (@pa_nam _ _ _ _ _ _ (pv 4) pa_nil)) pa_nil)) pa_nil))) (@pa_nam _ _ _ _ _ _ (pv 5) pa_nil))))))))))),?_⟩
  refine⟨_,rfl,p,_,N,rfl,B,by lia,by decide,by decide,fun z H1 z0 z1 B1 k1=>⟨_,_,rfl,rfl,?_⟩⟩
  obtain⟨k,ek,k3,k6⟩:∃ k:Nat,(3:Int)+z=(k:Int)/\3<=k/\k<=6:=⟨(3+z).toNat,by lia,by lia,by lia⟩
  refine⟨_,rfl,p,_,_,rfl,B1,by lia,by decide,by decide,fun y H2 y0 y1 B2 k2=>⟨_,_,rfl,rfl,?_⟩⟩
  refine⟨_,rfl,p,_,_,rfl,B2,by lia,by decide,by decide,fun x H3 x0 x1 B3 k3'=>⟨_,_,rfl,rfl,(by show 2<=sizeLine;decide),fun tp htp=>?_⟩⟩
  refine⟨tp,_,rfl,SqT.of upd_same,rfl,_,_,rfl,_,_,rfl,rfl,?_⟩
  have B4:=B3.new (o:=.tup [.int (1+y),.int (1+x)]) htp
  have k4:Kept p H (upd H3 tp (.tup [.int (1+y),.int (1+x)])):=k1.trans (k2.trans (k3'.trans (Kept.new htp)))
  generalize (upd H3 tp (.tup [.int (1+y),.int (1+x)]))=H4 at B4 k4
  refine⟨_,rfl,_,rfl,by lia,by lia,?_⟩
  rw[show((3:Int)+z).toNat=k by lia]
  have inl:(inr k (1+x)).length=k:=by unfold inr;rw[List.length_map,List.length_range]
  have rnl:(rnd (k-1) (1+y)).length=k-1:=by unfold rnd;rw[List.length_map,List.length_range]
  refine comp_range (lo:=0) (n:=k) (fun j ys G=>Same H4 G/\∃ cs:List Addr,ys=cs.map V.ref/\Paired (fun a x=>G a=some (.tup (tieV x))) cs ((inr k (1+x)).take j)) (by rw[sizeLine_eq];lia) ⟨Same.refl _,[],rfl,.nil⟩ ?_ ?_
  ·rintro j ys G hj ⟨sG,cs,rfl,pc⟩
   refine⟨⟨rfl,rfl,trivial⟩,tTru_if ⟨_,rfl,_,rfl,_,rfl,(by show 3<=sizeLine;decide),fun a ha=>?_⟩⟩
   have sa:=Same.new (o:=.tup [.int (0+(j:Int)),.int (3+z),.int (1+x)]) ha
   have jl:j <(inr k (1+x)).length:=by omega
   have ej:(inr k (1+x))[j]=((j:Int),(k:Int),1+x):=by simp[inr]
   refine⟨sG.trans sa,cs++[a],by rw[List.map_append];rfl,?_⟩
   rw[List.take_succ_eq_append_getElem jl,ej]
   refine Paired.snoc (Paired.mapP pc fun _ _ h=>sa _ _ h) ?_
   rw[upd_same]
   show some (HO.tup [V.int (0+(j:Int)),V.int (3+z),V.int (1+x)])=some (HO.tup [V.int (j:Int),V.int (k:Int),V.int (1+x)])
   rw[Int.zero_add,ek]
  rintro ys G _ ⟨sG,cs,rfl,pc⟩ tl htl
  rw[List.take_of_length_le (by omega)]at pc
  have stl:=Same.new (o:=.lst (cs.map V.ref)) htl
  have gtl:(upd G tl (.lst (cs.map V.ref))) tl=some (.lst (cs.map V.ref)):=upd_same
  have s5:=sG.trans stl
  have pc5:Paired (fun a x=>(upd G tl (.lst (cs.map V.ref))) a=some (.tup (tieV x))) cs (inr k (1+x)):=Paired.mapP pc fun _ _ h=>stl _ _ h
  generalize (upd G tl (.lst (cs.map V.ref)))=H5 at gtl s5 pc5
  clear pc sG stl htl
  refine⟨_,rfl,_,rfl,_,_,rfl,rfl,_,rfl,by lia,by lia,?_⟩
  rw[show((3:Int)+z-1).toNat=k-1 by lia]
  refine comp_range (lo:=0) (n:=k-1) (fun j ys G=>Same H5 G/\∃ es:List Addr,ys=es.map V.ref/\Paired (fun a x=>G a=some (.tup (tieV x))) es ((rnd (k-1) (1+y)).take j)) (by rw[sizeLine_eq];lia) ⟨Same.refl _,[],rfl,.nil⟩ ?_ ?_
  ·rintro j ys G hj ⟨sG,es,rfl,pe⟩
   refine⟨⟨rfl,trivial⟩,tTru_if ⟨_,rfl,_,rfl,_,_,rfl,rfl,_,rfl,(by show 3<=sizeLine;decide),fun a ha=>?_⟩⟩
   have sa:=Same.new (o:=.tup [.int (0+(j:Int)),.int (0+(j:Int)+1),.int (1+y)]) ha
   have jl:j <(rnd (k-1) (1+y)).length:=by lia
   have ej:(rnd (k-1) (1+y))[j]=((j:Int),(j:Int)+1,1+y):=by simp[rnd]
   refine⟨sG.trans sa,es++[a],by rw[List.map_append];rfl,?_⟩
   rw[List.take_succ_eq_append_getElem jl,ej]
   refine Paired.snoc (Paired.mapP pe fun _ _ h=>sa _ _ h) ?_
   rw[upd_same]
   show some (HO.tup [V.int (0+(j:Int)),V.int (0+(j:Int)+1),V.int (1+y)])=some (HO.tup [V.int (j:Int),V.int ((j:Int)+1),V.int (1+y)])
   rw[Int.zero_add]
  rintro ys G _ ⟨sG,es,rfl,pe⟩ el hel
  rw[List.take_of_length_le (by lia)]at pe
  have sel:=Same.new (o:=.lst (es.map V.ref)) hel
  have gel:(upd G el (.lst (es.map V.ref))) el=some (.lst (es.map V.ref)):=upd_same
  have s6:=sG.trans sel
  have pe6:Paired (fun a x=>(upd G el (.lst (es.map V.ref))) a=some (.tup (tieV x))) es (rnd (k-1) (1+y)):=Paired.mapP pe fun _ _ h=>sel _ _ h
  generalize (upd G el (.lst (es.map V.ref)))=H6 at gel s6 pe6
  clear pe sG sel hel
  have csl:=pc5.length
  have esl:=pe6.length
  refine⟨tl,el,_,_,rfl,rfl,s6 _ _ gtl,gel,by rw[List.length_map,List.length_map,sizeLine_eq];lia,fun l1 hl1=>?_⟩
  rw[<- List.map_append]
  have sl1:=Same.new (o:=.lst ((cs++es).map V.ref)) hl1
  have gl1:(upd H6 l1 (.lst ((cs++es).map V.ref))) l1=some (.lst ((cs++es).map V.ref)):=upd_same
  have s7:=s6.trans sl1
  have pe7:Paired (fun a x=>(upd H6 l1 (.lst ((cs++es).map V.ref))) a=some (.tup (tieV x))) es (rnd (k-1) (1+y)):=Paired.mapP pe6 fun _ _ h=>sl1 _ _ h
  generalize (upd H6 l1 (.lst ((cs++es).map V.ref)))=H7 at gl1 s7 pe7
  refine⟨_,rfl,_,_,rfl,rfl,_,rfl,(by show 3<=sizeLine;decide),fun tp2 htp2=>⟨(by show 1<=sizeLine;decide),fun l2 hl2=>?_⟩⟩
  have st2:=Same.new (o:=.tup [.int 0,.int (3+z-1),.int (1+y)]) htp2
  have sl2:=Same.new (o:=.lst [.ref tp2]) hl2
  refine⟨l1,l2,_,_,rfl,rfl,sl2 _ _ (st2 _ _ gl1),upd_same,by rw[List.length_map,List.length_append,sizeLine_eq];show _+1<=_;lia,fun l3 hl3=>?_⟩
  have e3:(cs++es).map V.ref++[V.ref tp2]=(cs++es++[tp2]).map V.ref:=by rw[List.map_append (l₂:=[tp2])];rfl
  rw[e3]
  have sl3:=Same.new (o:=.lst ((cs++es++[tp2]).map V.ref)) hl3
  have s73:=st2.trans (sl2.trans sl3)
  have gl3:(upd (upd (upd H7 tp2 (.tup [.int 0,.int (3+z-1),.int (1+y)])) l2 (.lst [.ref tp2])) l3 (.lst ((cs++es++[tp2]).map V.ref))) l3=some (.lst ((cs++es++[tp2]).map V.ref)):=upd_same
  have g2:(upd (upd (upd H7 tp2 (.tup [.int 0,.int (3+z-1),.int (1+y)])) l2 (.lst [.ref tp2])) l3 (.lst ((cs++es++[tp2]).map V.ref))) tp2=some (.tup (tieV (0,(k:Int)-1,1+y))):=by
   refine sl3 _ _ (sl2 _ _ ?_)
   rw[upd_same]
   show some (HO.tup [V.int 0,V.int (3+z-1),V.int (1+y)])=some (HO.tup [V.int 0,V.int ((k:Int)-1),V.int (1+y)])
   rw[ek]
  have pw8:Paired (fun a x=>(upd (upd (upd H7 tp2 (.tup [.int 0,.int (3+z-1),.int (1+y)])) l2 (.lst [.ref tp2])) l3 (.lst ((cs++es++[tp2]).map V.ref))) a=some (.tup (tieV x))) (cs++es++[tp2]) (whl k (1+y) (1+x)):=by
   unfold whl
   exact Paired.snoc (PairedApp (Paired.mapP pc5 fun _ _ h=>s73 _ _ (s7 _ _ h)) (Paired.mapP pe7 fun _ _ h=>s73 _ _ h)) g2
  have s8:=s5.trans (s7.trans s73)
  have s8':=s5.trans (s7.trans (st2.trans sl2))
  generalize (upd (upd (upd H7 tp2 (.tup [.int 0,.int (3+z-1),.int (1+y)])) l2 (.lst [.ref tp2])) l3 (.lst ((cs++es++[tp2]).map V.ref)))=H8 at gl3 pw8 s8
  have l3p:l3≠p:=(B4.same s8').ne hl3
  clear pc5 pe6 pe7 gl1 gel gtl s73 s7 s6 s5 st2 sl1 sl2 sl3 htp2 hl1 hl2 hl3 s8'
  have B8:=B4.same s8
  have k8:Kept p H H8:=k4.trans fun b o _ e=>s8 b o e
  refine⟨_,rfl,_,rfl,fun r hr=>⟨r,_,rfl,upd_same,by lia,by lia,fun pl hpl=>?_⟩⟩
  rw[show((3:Int)+z).toNat=k by lia]
  have pl8:H8 pl=none:=(Same.new (o:=.rng 0 ((3:Int)+z)) hr).free hpl
  have plp:pl≠p:=B8.ne pl8
  have pl0:H pl=none:=k8.free B8 pl8
  have pl3:pl≠l3:=fun e=>by rw[e,gl3]at pl8;cases pl8
  have s9:=(Same.new (o:=.rng 0 ((3:Int)+z)) hr).trans (Same.new (o:=.lst ((upto k).map V.int)) hpl)
  have gpl:(upd (upd H8 r (.rng 0 ((3:Int)+z))) pl (.lst ((upto k).map V.int))) pl=some (.lst ((upto k).map V.int)):=upd_same
  have g39:=s9 _ _ gl3
  have pt9:Paired (fun a x=>(upd (upd H8 r (.rng 0 ((3:Int)+z))) pl (.lst ((upto k).map V.int))) a=some (.tup (tieV x))) (cs++es++[tp2]) (whl k (1+y) (1+x)):=Paired.mapP pw8 fun _ _ h=>s9 _ _ h
  have B9:=B8.same s9
  have k9:Kept p H (upd (upd H8 r (.rng 0 ((3:Int)+z))) pl (.lst ((upto k).map V.int))):=k8.trans fun b o _ e=>s9 b o e
  generalize (upd (upd H8 r (.rng 0 ((3:Int)+z))) pl (.lst ((upto k).map V.int)))=H9 at gpl g39 pt9 B9 k9
  have upl:(upto k).length=k:=upto_length k
  refine⟨WhI p l3 pl H N k (cs++es++[tp2]) (whl k (1+y) (1+x)) (3+z) (1+y) (1+x),⟨_,upto k,rfl,rfl,B9.mono (by lia),k9,gpl,g39,pt9,upto_nodup k,fun v hv=>mem_uptoI.mp hv,by lia,by lia⟩,?_⟩
  clear gpl g39 pt9 B9 k9 s9 pw8 s8 B8 k8 gl3 hpl pl8 hr
  rintro m σ G ⟨ps,rfl,rfl,BG,kG,gp,g3,pt,nd,rg,lo,hi⟩
  refine⟨_,rfl,pl,_,rfl,gp,_,_,rfl,rfl,_,rfl,?_⟩
  have e4:decide (4 <((ps.map V.int).length:Int))=decide (4<ps.length):=by rw[List.length_map];exact decide_eq_decide.mpr (by lia)
  have e2':decide (2 <((ps.map V.int).length:Int))=decide (2<ps.length):=by rw[List.length_map];exact decide_eq_decide.mpr (by lia)
  rw[e4]
  by_cases c4:4<ps.length
  ·rw[decide_eq_true c4]
   refine iteT ?_
   refine iteT ?_
   refine⟨WhI p l3 pl H N k (cs++es++[tp2]) (whl k (1+y) (1+x)) (3+z) (1+y) (1+x) (ps.length-1),fun σ' H' h=>⟨_,by lia,h⟩,?_⟩
   refine⟨_,rfl,⟨pl,_,rfl,gp⟩,_,rfl,_,rfl,pl,_,rfl,gp,p,_,_,rfl,BG,by omega,by rw[List.length_map];lia,by rw[List.length_map];lia,fun v G3 v0 v1 B3 kk=>?_⟩
   rw[List.length_map]at v1
   obtain⟨i,rfl⟩:∃ i:Nat,v=(i:Int):=⟨v.toNat,by lia⟩
   have il:i<ps.length:=by lia
   have gp3:=kk _ _ plp gp
   refine⟨pl,ps.map V.int,(i:Int),i,V.int ps[i],rfl,rfl,gp3,by lia,by lia,?_,by rw[List.getElem?_map,List.getElem?_eq_getElem il];rfl,?_⟩
   ·unfold seqIndex?
    rw[List.length_map]
    simp
    lia
   rw[map_eraseI]
   refine⟨ps.eraseIdx i,by rw[List.length_eraseIdx,if_pos il],rfl,(B3.put plp).mono (by rw[List.length_eraseIdx,if_pos il];omega),(kG.trans kk).put pl0,upd_same,?_,?_,List.Pairwise.sublist (List.eraseIdx_sublist _ _) nd,fun x hx=>rg x (List.mem_of_mem_eraseIdx hx),by rw[List.length_eraseIdx,if_pos il];lia,by rw[List.length_eraseIdx,if_pos il];lia⟩
   ·rw[upd_ne (Ne.symm pl3)]
    exact kk _ _ l3p g3
   ·refine Paired.mapP pt fun a x h=>?_
    have h3:=kk _ _ (fun e=>by obtain⟨x1,x2,x3,eb,_⟩:=BG;rw[e,eb]at h;cases h) h
    rw[upd_ne (fun e=>by rw[e,gp3]at h3;cases h3)]
    exact h3
  ·rw[decide_eq_false c4]
   refine iteF ?_
   refine⟨_,rfl,pl,_,rfl,gp,_,_,rfl,rfl,_,rfl,?_⟩
   rw[e2']
   by_cases c2:2<ps.length
   ·rw[decide_eq_true c2]
    refine iteT ?_
    refine⟨_,rfl,p,_,_,rfl,BG,by omega,by decide,by decide,fun u G2 u0 u1 BG2 kk2=>?_⟩
    have gp:=kk2 _ _ plp gp
    have g3:=kk2 _ _ l3p g3
    have pt:Paired (fun a x=>G2 a=some (.tup (tieV x))) (cs++es++[tp2]) (whl k (1+y) (1+x)):=Paired.mapP pt fun a x h=>kk2 _ _ (fun e=>by obtain⟨x1,x2,x3,eb,_⟩:=BG;rw[e,eb]at h;cases h) h
    have kG:=kG.trans kk2
    have BG:=BG2
    refine⟨rfl,_,rfl,?_⟩
    by_cases cu:decide (V.int u=V.int 0)=true
    ·rw[cu]
     refine iteT ?_
     refine⟨WhI p l3 pl H N k (cs++es++[tp2]) (whl k (1+y) (1+x)) (3+z) (1+y) (1+x) (ps.length-1),fun σ' H' h=>⟨_,by lia,h⟩,?_⟩
     refine⟨_,rfl,⟨pl,_,rfl,gp⟩,_,rfl,_,rfl,pl,_,rfl,gp,p,_,_,rfl,BG,by omega,by rw[List.length_map];lia,by rw[List.length_map];lia,fun v G3 v0 v1 B3 kk=>?_⟩
     rw[List.length_map]at v1
     obtain⟨i,rfl⟩:∃ i:Nat,v=(i:Int):=⟨v.toNat,by lia⟩
     have il:i<ps.length:=by lia
     have gp3:=kk _ _ plp gp
     refine⟨pl,ps.map V.int,(i:Int),i,V.int ps[i],rfl,rfl,gp3,by lia,by lia,?_,by rw[List.getElem?_map,List.getElem?_eq_getElem il];rfl,?_⟩
     ·unfold seqIndex?
      rw[List.length_map]
      simp
      lia
     rw[map_eraseI]
     refine⟨ps.eraseIdx i,by rw[List.length_eraseIdx,if_pos il],rfl,(B3.put plp).mono (by rw[List.length_eraseIdx,if_pos il];omega),(kG.trans kk).put pl0,upd_same,?_,?_,List.Pairwise.sublist (List.eraseIdx_sublist _ _) nd,fun x hx=>rg x (List.mem_of_mem_eraseIdx hx),by rw[List.length_eraseIdx,if_pos il];lia,by rw[List.length_eraseIdx,if_pos il];lia⟩
     ·rw[upd_ne (Ne.symm pl3)]
      exact kk _ _ l3p g3
     ·refine Paired.mapP pt fun a x h=>?_
      have h3:=kk _ _ (fun e=>by obtain⟨x1,x2,x3,eb,_⟩:=BG;rw[e,eb]at h;cases h) h
      rw[upd_ne (fun e=>by rw[e,gp3]at h3;cases h3)]
      exact h3
    ·rw[Bool.eq_false_iff.mpr cu]
     refine iteF ?_
     have al:=pt.length
     have wl:=whl_len (k:=k) (r:=1+y) (i:=1+x) k3
     refine⟨_,rfl,_,_,rfl,rfl,_,rfl,l3,_,(whl k (1+y) (1+x)).map tieK,rfl,SqL.of g3,ties_tups pt,fun q hq=>?_,by lia,fun l' bs ns' hl' pm' so' tb=>?_⟩
     ·obtain⟨x,_,rfl⟩:=List.mem_map.mp hq
      exact fun z=>nomatch z
     have sl:=Same.new (o:=.lst (bs.map V.ref)) hl'
     refine⟨l',_,rfl,upd_same,fun ts hts=>⟨(by show 2<=sizeLine;decide),fun t ht=>⟨_,rfl,(by show 2<=sizeLine;decide),fun r hr=>?_⟩⟩⟩
     have s2:=Same.new (o:=.tup (bs.map V.ref)) hts
     have s3:=Same.new (o:=.tup [.int (3+z+1),.ref ts]) ht
     have s4:=Same.new (o:=.tup [.ref t,.ref pl]) hr
     obtain⟨tl2,p2,pm2,e2⟩:=tups_perm tb pm'
     rw[e2]at so'
     have ok2:∀ x∈tl2,TieOk (k+1) x:=fun x hx=>whl_ok k3 (by lia) (by lia) x (pm2.mem_iff.mp hx)
     have l2:=pm2.length_eq
     have pw2:=strict_of so' ((pm2.map fun x=>(x.1,x.2.1)).nodup_iff.mpr (whl_nd k3 k6))
     have sA:=sl.trans (s2.trans (s3.trans s4))
     have gt:(upd (upd (upd (upd G2 l' (.lst (bs.map V.ref))) ts (.tup (bs.map V.ref))) t (.tup [.int (3+z+1),.ref ts])) r (.tup [.ref t,.ref pl])) t=some (.tup [.int ((k+1:Nat):Int),.ref ts]):=s4 _ _ (by rw[upd_same];show some (HO.tup [V.int (3+z+1),V.ref ts])=_;rw[show(3:Int)+z+1=((k+1:Nat):Int) by lia])
     exact fin r t pl (k+1) tl2 ps _ upd_same (by lia) (by lia) ⟨⟨ts,bs,gt,s4 _ _ (s3 _ _ upd_same),Paired.mapP p2 fun a x e=>s4 _ _ (s3 _ _ (s2 _ _ (sl _ _ e)))⟩,by lia⟩ ok2 pw2 (sA _ _ gp) ⟨nd,fun x hx=>by have:=rg x hx;lia,by lia,by omega⟩ (by omega) (by lia) ((BG.same sA).mono (by omega)) (kG.trans fun b o _ e=>sA b o e)
   ·rw[decide_eq_false c2]
    refine iteF ?_
    refine iteF ?_
    have al:=pt.length
    have wl:=whl_len (k:=k) (r:=1+y) (i:=1+x) k3
    refine⟨_,rfl,_,_,rfl,rfl,_,rfl,l3,_,(whl k (1+y) (1+x)).map tieK,rfl,SqL.of g3,ties_tups pt,fun q hq=>?_,by lia,fun l' bs ns' hl' pm' so' tb=>?_⟩
    ·obtain⟨x,_,rfl⟩:=List.mem_map.mp hq
     exact fun z=>nomatch z
    have sl:=Same.new (o:=.lst (bs.map V.ref)) hl'
    refine⟨l',_,rfl,upd_same,fun ts hts=>⟨(by show 2<=sizeLine;decide),fun t ht=>⟨_,rfl,(by show 2<=sizeLine;decide),fun r hr=>?_⟩⟩⟩
    have s2:=Same.new (o:=.tup (bs.map V.ref)) hts
    have s3:=Same.new (o:=.tup [.int (3+z+1),.ref ts]) ht
    have s4:=Same.new (o:=.tup [.ref t,.ref pl]) hr
    obtain⟨tl2,p2,pm2,e2⟩:=tups_perm tb pm'
    rw[e2]at so'
    have ok2:∀ x∈tl2,TieOk (k+1) x:=fun x hx=>whl_ok k3 (by lia) (by lia) x (pm2.mem_iff.mp hx)
    have l2:=pm2.length_eq
    have pw2:=strict_of so' ((pm2.map fun x=>(x.1,x.2.1)).nodup_iff.mpr (whl_nd k3 k6))
    have sA:=sl.trans (s2.trans (s3.trans s4))
    have gt:(upd (upd (upd (upd G l' (.lst (bs.map V.ref))) ts (.tup (bs.map V.ref))) t (.tup [.int (3+z+1),.ref ts])) r (.tup [.ref t,.ref pl])) t=some (.tup [.int ((k+1:Nat):Int),.ref ts]):=s4 _ _ (by rw[upd_same];show some (HO.tup [V.int (3+z+1),V.ref ts])=_;rw[show(3:Int)+z+1=((k+1:Nat):Int) by lia])
    exact fin r t pl (k+1) tl2 ps _ upd_same (by lia) (by lia) ⟨⟨ts,bs,gt,s4 _ _ (s3 _ _ upd_same),Paired.mapP p2 fun a x e=>s4 _ _ (s3 _ _ (s2 _ _ (sl _ _ e)))⟩,by lia⟩ ok2 pw2 (sA _ _ gp) ⟨nd,fun x hx=>by have:=rg x hx;lia,by lia,by omega⟩ (by omega) (by lia) ((BG.same sA).mono (by omega)) (kG.trans fun b o _ e=>sA b o e)
end
open PySem L2 PyProof.Rows
theorem seq_byt{K:PySem.W.Frag}{B:Addr}{pos:Pos}{q:Str}{H H':Hp}{a:Addr}{xs:List V}(h:SqL K H a xs)(TB:TabH B pos q H)(k:BytP B H H'):SqL K H' a xs:=by
 rcases h with(h |⟨o,h⟩) | h
 ·exact .inl (.inl (k _ _ (TB.ne h fun ps z=>by cases z) h))
 ·exact .inl (.inr ⟨o,k _ _ (TB.ne h fun ps z=>by cases z) h⟩)
 ·exact .inr h
theorem tab_kept{B p:Addr}{pos:Pos}{q:Str}{H H':Hp}{N:Nat}(TB:TabH B pos q H)(X:BoxAt H p N)(k:Kept p H H'):TabH B pos q H':=by
 obtain⟨a,b,c,e,_⟩:=X
 rcases TB with t |⟨c',t,u⟩
 ·exact .inl (k _ _ (ne_of t e (by intro z;cases z)) t)
 ·exact .inr ⟨c',k _ _ (ne_of t e (by intro z;cases z)) t,k _ _ (ne_of u e (by intro z;cases z)) u⟩
inductive spRiI(B:Addr)(vs:List V)(H:Hp)(Q:VK):Prop where
 |mk (t q:Addr) (n:Nat) (ties:List Tie) (ps:List Int) (h1:vs=[.ref t,.ref q]) (h2:WebAt H t n ties) (h3:(∀ x∈ties,TieOk n x)) (h4:ties.Pairwise tieLt) (h5:n<=7) (h6:H q=some (.lst (ps.map V.int))) (h7:PostOk n ps) (h8:TabH B lamPos lamQ H) (h9:∀ H',BytP B H H'->TabH B lamPos lamQ H'->Q (.bl true) H')
noncomputable def spRi(B:Addr):Sp:=fun vs H Q _=>spRiI B vs H Q
section
variable{P:Program}{w:World}{K:PySem.W.Frag}{mg:Str->Option Value}{base:Heap}
noncomputable abbrev nRi:List Str:=["_law_web_here","_law_posts_here","_law_weight_here","_law_cut","_law_papers","_law_many_here","_law_least_here"]
theorem scRi:FnScope nRi ["_law_web_here","_law_posts_here"] (defScope sRight):=⟨rfl,rfl,rfl,by decide +kernel,rfl,by decide +kernel,by decide +kernel⟩
theorem csRi1:CompScope ["_law_paper"] [none] nRi (defScope sRight) (scO [(".0",.local),("_law_paper",.local)]):=⟨rfl,by decide +kernel,by decide +kernel,by decide +kernel,rfl,capB_ok (by decide +kernel)⟩
theorem ndRi1:(["_law_paper"]:List Str).Nodup:=by decide +kernel
theorem ok_ri{f g1 g2 B:Addr}{fd d1 d2:FuncData}(F:Fun K "_law_right" "_law_right" sRight f fd)(T:Txt mg)(GB:CalF P w K mg base 6 "by_singles" ["web","posts"] (spBs B) g1 d1)(GL:CalF P w K mg base 1 "_law_least" ["_law_web_here","_law_posts_here"] spLe g2 d2):FnOk P w K mg base CX0 7 f fd ["_law_web_here","_law_posts_here"] (spRi B):=by
 refine F.ok scRi (fun vs H Q E h=>?_) (fun cdv A outer s H vs Q E hr h=>?_)
 ·obtain⟨t,q,n,ties,ps,rfl,_⟩:=h
  rfl
 ·obtain⟨t,q,n,ties,ps,rfl,W,ok,pw,n7,gq,po,TB,fin⟩:=h
  have hr6:Room 6 _:=hr
  have hr1:Room 1 _:=hr.mono (by decide)
  have lo:=po.lo
  have hi:=po.hi
  have PO:Posts n ps:=⟨po.nd,po.rg⟩
  refine⟨_,(pss_cons (ps_asg (pe_call GB.ok hr6 rfl GB.mg GB.kp GB.bd .nil pass0 (@pa_nam _ _ _ _ _ _ (pv 0) (@pa_nam _ _ _ _ _ _ (pv 1) pa_nil))) (pg_tup (n:=3) rfl (pgs_cons (pg_name (i:=2) scRi.nd rfl (Or.inl rfl)) (pgs_cons (pg_name (i:=3) scRi.nd rfl (Or.inl rfl)) (pgs_cons (pg_name (i:=4) scRi.nd rfl (Or.inl rfl)) pgs_nil)))))
   (pss_cons (ps_set (i:=5) scRi.nd rfl (Or.inl rfl) (pe_callB call_lenH (by rfl) T.len PySem.boot_len (@pa_nam _ _ _ _ _ _ (pv 1) pa_nil)))
   (pss_cons (ps_set (i:=6) scRi.nd rfl (Or.inl rfl) (pe_call GL.ok hr1 rfl GL.mg GL.kp GL.bd .nil pass0 (@pa_nam _ _ _ _ _ _ (pv 0) (@pa_nam _ _ _ _ _ _ (pv 1) pa_nil))))
   (pss_cons (ps_if (PW.pt (pw_or (pt_not (pt_cmpR op_le (pv 6) (pv 2) (nomark _))) (pw_or1 (pt_cmpR op_gt (pe_op op_mul (pv 5) (pv 2)) (pe_op op_mul (pe_op op_sub (pe_op op_mul pe_int (pv 5)) pe_int) (pv 6)) (nomark _))))) pss_never pss_nil)
   (pss_one (ps_ret (pe_cmpR op_ge (pe_op op_mul pe_int (pv 6)) (pe_callB (call_sumH rfl) (by rfl) T.sum boot_sum (@pa_comp _ _ _ _ _ _ _ _ (pe_comp rfl csRi1 (pi_list (pv 4)) (fun C s H fp=>(pg_name (i:=0) ndRi1 rfl (Or.inl rfl))) (fun C s H fp=>pf_nil) (fun C s H fp=>(@pe_ix _ _ _ _ _ _ _ ix_tupH (pv 0) pe_int (fun _ _=>rfl)))) pa_nil)) (nomark _)))))))),?_⟩
  refine⟨_,rfl,_,rfl,t,q,n,ties,false,ps,rfl,W,ok,pw,by lia,gq,PO,lo,by lia,TB,fun r c l wg xs zs H1 gr hw gl px pz b1 TB1=>?_⟩
  have W1:=W.byt TB b1
  have gq1:=b1 _ _ (TB.ne gq fun ps z=>by cases z) gq
  refine⟨r,_,rfl,SqT.of gr,rfl,_,_,rfl,_,_,rfl,_,_,rfl,rfl,?_⟩
  refine⟨_,rfl,q,_,rfl,gq1,?_⟩
  refine⟨_,rfl,_,rfl,t,q,n,ties,ps,rfl,W1,ok,n7,gq1,lo,by lia,po.rg,fun m H2 L s12=>?_⟩
  obtain⟨w1,w2⟩:=hw m L
  have hs:=half_sum ok PO pz L
  refine⟨_,rfl,_,rfl,_,_,rfl,rfl,_,rfl,?_⟩
  rw[decide_eq_true w1]
  refine iteF ?_
  have ml:((ps.map V.int).length:Int)=(ps.length:Int):=by rw[List.length_map]
  rw[ml]
  refine⟨_,rfl,_,rfl,_,_,rfl,rfl,.inl ⟨by lia,by lia⟩,_,rfl,_,_,rfl,rfl,.inl ⟨by decide,by decide⟩,_,_,rfl,rfl,_,rfl,_,_,rfl,rfl,.inl ⟨by lia,by lia⟩,_,_,rfl,rfl,_,rfl,?_⟩
  have f2:decide ((2 * (ps.length:Int)-2) * m <(ps.length:Int) * wg)=false:=decide_eq_false (by omega)
  rw[f2]
  refine iteF ?_
  have xl:=px.length
  have zl:=pz.length
  have gl2:=s12 _ _ gl
  refine⟨_,rfl,_,_,rfl,rfl,.inl ⟨by decide,by decide⟩,?_⟩
  refine⟨_,rfl,l,rfl,⟨_,SqL.of gl2⟩,?_⟩
  refine comp_list (K:=K) (a:=l) (xs:=xs.map fun x=>V.ref x.r) (fun i ys G=>G=H2/\ys=((zs.take i).map (·.1)).map V.int) (by rw[List.length_map,sizeLine_eq];lia) ⟨rfl,rfl⟩ (fun i ys G _ z=>by rw[z.1];exact SqL.of gl2) ?_ ?_
  ·rintro i x ys G hx ⟨rfl,rfl⟩
   obtain⟨il,e⟩:=List.getElem?_eq_some_iff.mp hx
   rw[List.length_map]at il
   rw[List.getElem_map]at e
   subst e
   have iz:i<zs.length:=by lia
   have gx:=s12 _ _ (Paired.at px i il iz).1
   refine⟨trivial,tTru_if ⟨_,rfl,xs[i].r,_,_,_,rfl,rfl,gx,at0,rfl,?_⟩⟩
   rw[List.take_succ_eq_append_getElem iz,List.map_append,List.map_append]
   rfl
  rintro ys G _ ⟨rfl,rfl⟩ D hD
  have et:zs.take (xs.map fun x=>V.ref x.r).length=zs:=List.take_of_length_le (by rw[List.length_map];lia)
  rw[et]
  refine⟨D,_,rfl,upd_same,_,_,rfl,rfl,?_⟩
  show Q (V.bl (decide ((zs.map (·.1)).sum<=2 * m))) _
  rw[decide_eq_true hs]
  have sD:=s12.trans (Same.new (o:=.lst ((zs.map (·.1)).map V.int)) hD)
  exact fin _ (b1.trans (BytP.of sD)) (TB1.same sD)
end
open PySem L2 PyProof.Rows
inductive spLawI(K:PySem.W.Frag)(B:Addr)(vs:List V)(H:Hp)(Q:VK):Prop where
 |mk (a:Addr) (ns:List Int) (h1:vs=[.ref a]) (h2:SqL K H a (ns.map V.int)) (h3:ns.length<=63) (h4:TabH B lamPos lamQ H) (h5:∀ H',Q (.bl true) H')
noncomputable def spLaw(K:PySem.W.Frag)(B:Addr):Sp:=fun vs H Q _=>spLawI K B vs H Q
theorem Kept.same{p:Addr}{H H':Hp}(hp:H p=none)(k:Kept p H H'):Same H H':=fun b o e=>k b o (ne_of_none e hp) e
theorem BoxAt.byt{B p:Addr}{pos:Pos}{q:Str}{H H':Hp}{N:Nat}(X:BoxAt H p N)(TB:TabH B pos q H)(k:BytP B H H'):BoxAt H' p N:=by
 obtain⟨a,b,c,e,r⟩:=X
 exact⟨a,b,c,k _ _ (TB.ne e fun ps z=>by cases z) e,r⟩
structure Fs(P:Program)(w:World)(K:PySem.W.Frag)(mg:Str->Option Value)(base:Heap)(B g1 g2 g3 g4 g5:Addr)(d1 d2 d3 d4 d5:FuncData):Prop where
 box:CalF P w K mg base 2 "_law_box" ["_law_script","_law_k"] (spBox K) g1 d1
 web:CalF P w K mg base 3 "_law_web" ["_law_box_here","_law_many_here"] spWeb g2 d2
 posts:CalF P w K mg base 2 "_law_posts" ["_law_box_here","_law_many_here","_law_most"] spPo g3 d3
 right:CalF P w K mg base 7 "_law_right" ["_law_web_here","_law_posts_here"] (spRi B) g4 d4
 wheel:CalF P w K mg base 2 "_law_wheel" ["_law_box_here"] spWh g5 d5
section
variable{P:Program}{w:World}{K:PySem.W.Frag}{mg:Str->Option Value}{base:Heap}
noncomputable abbrev nLaw:List Str:=["_law_script","_law_k","_law_box_here","_law_many_here","_law_web_here","_law_posts_here","_law_wheel_here","_law_others"]
theorem scLaw:FnScope nLaw ["_law_script"] (defScope sLaw):=⟨rfl,rfl,rfl,by decide +kernel,rfl,by decide +kernel,by decide +kernel⟩
theorem ok_law{f g B g1 g2 g3 g4 g5:Addr}{fd gd d1 d2 d3 d4 d5:FuncData}(F:Fun K "law" "law" sLaw f fd)(T:Txt mg)(TK:TakeF P w K mg base g gd)(S:Fs P w K mg base B g1 g2 g3 g4 g5 d1 d2 d3 d4 d5):FnOk P w K mg base CX0 8 f fd ["_law_script"] (spLaw K B):=by
 refine F.ok scLaw (fun vs H Q E h=>?_) (fun cdv A outer s H vs Q E hr h=>?_)
 ·obtain⟨a,ns,rfl,_⟩:=h
  rfl
 ·obtain⟨a,ns,rfl,hS,hlen,TB,q⟩:=h
  have hr7:Room 7 _:=hr
  have hr3:Room 3 _:=hr.mono (by decide)
  have hr2:Room 2 _:=hr.mono (by decide)
  have hr1:Room 1 _:=hr.mono (by decide)
  refine⟨_,(pss_cons (ps_for PassesOwn.never rfl (pi_range1 rfl T.range (@pa_bin _ _ _ _ _ _ _ _ (pe_op op_add pe_int (pe_callB (call_min2 rfl) (by rfl) T.min boot_min (@pa_cst _ _ _ _ _ _ _ pe_int (@pa_call _ _ _ _ _ _ _ _ (pe_callB call_len_seq (by rfl) T.len PySem.boot_len (@pa_nam _ _ _ _ _ _ (pv 0) pa_nil)) pa_nil)))) pa_nil)) (pg_name (i:=1) scLaw.nd rfl (Or.inl rfl))
   (pss_cons (ps_set (i:=2) scLaw.nd rfl (Or.inl rfl) (pe_call S.box.ok hr2 rfl S.box.mg S.box.kp S.box.bd .nil pass0 (@pa_nam _ _ _ _ _ _ (pv 0) (@pa_nam _ _ _ _ _ _ (pv 1) pa_nil))))
   (pss_cons (ps_set (i:=3) scLaw.nd rfl (Or.inl rfl) (pe_op op_add pe_int (pe_call TK.ok hr1 rfl TK.mg TK.kp TK.bd .nil pass0 (@pa_nam _ _ _ _ _ _ (pv 2) (@pa_cst _ _ _ _ _ _ _ pe_int pa_nil)))))
   (pss_cons (ps_set (i:=4) scLaw.nd rfl (Or.inl rfl) (pe_call S.web.ok hr3 rfl S.web.mg S.web.kp S.web.bd .nil pass0 (@pa_nam _ _ _ _ _ _ (pv 2) (@pa_nam _ _ _ _ _ _ (pv 3) pa_nil))))
   (pss_cons (ps_set (i:=5) scLaw.nd rfl (Or.inl rfl) (pe_call S.posts.ok hr2 rfl S.posts.mg S.posts.kp S.posts.bd .nil pass0 (@pa_nam _ _ _ _ _ _ (pv 2) (@pa_nam _ _ _ _ _ _ (pv 3) (@pa_cst _ _ _ _ _ _ _ pe_int pa_nil)))))
   (pss_cons (ps_if (pt_not (pt_val (pe_call S.right.ok hr rfl S.right.mg S.right.kp S.right.bd .nil pass0 (@pa_nam _ _ _ _ _ _ (pv 4) (@pa_nam _ _ _ _ _ _ (pv 5) pa_nil))))) pss_never pss_nil)
   (pss_cons (ps_asg (pe_call S.wheel.ok hr2 rfl S.wheel.mg S.wheel.kp S.wheel.bd .nil pass0 (@pa_nam _ _ _ _ _ _ (pv 2) pa_nil)) (pg_tup (n:=2) rfl (pgs_cons (pg_name (i:=6) scLaw.nd rfl (Or.inl rfl)) (pgs_cons (pg_name (i:=7) scLaw.nd rfl (Or.inl rfl)) pgs_nil))))
   (pss_one (ps_if (pt_not (pt_val (pe_call S.right.ok hr rfl S.right.mg S.right.kp S.right.bd .nil pass0 (@pa_nam _ _ _ _ _ _ (pv 6) (@pa_nam _ _ _ _ _ _ (pv 7) pa_nil))))) pss_never pss_nil)))))))))
   (pss_one (ps_ret pe_bl))),?_⟩
  refine⟨_,rfl,a,_,rfl,.inl hS,_,_,rfl,_,_,rfl,rfl,_,rfl,?_,?_,?_⟩
  ·split <;> lia
  ·split <;> lia
  generalize ((1:Int)+(if((ns.map V.int).length:Int)<5 then((ns.map V.int).length:Int)else 5)).toNat=turns
  refine for_range (lo:=0) (n:=turns) (fun i σ H'=>Ex7 fun(v1 v2 v3 v4 v5 v6 v7:Option V)=>σ=[some (.ref a),v1,v2,v3,v4,v5,v6,v7]/\BytP B H H'/\TabH B lamPos lamQ H') ⟨_,_,_,_,_,_,_,rfl,fun _ _ _ e=>e,TB⟩ ?_ ?_
  ·rintro i σ H0 hi ⟨v1,v2,v3,v4,v5,v6,v7,rfl,b0,TB0⟩
   refine⟨_,rfl,_,rfl,a,ns,0+i,by rw[Int.zero_add,Nat.zero_add];rfl,seq_byt hS TB b0,fun p H1 hp B1 k1=>?_⟩
   have TB1:=TB0.same (Kept.same hp k1)
   refine⟨_,rfl,p,_,_,rfl,B1,by lia,by decide,by decide,fun z H2 z0 z1 B2 k2=>⟨_,_,rfl,rfl,?_⟩⟩
   have TB2:=tab_kept TB1 B1 k2
   obtain⟨n,en,n3,n7⟩:∃ n:Nat,(3:Int)+z=(n:Int)/\3<=n/\n<=7:=⟨(3+z).toNat,by lia,by lia,by lia⟩
   refine⟨_,rfl,_,rfl,p,n,_,by rw[<- en];rfl,B2,by lia,by lia,by lia,fun t ties H3 ht W3 ok pw B3 k3=>?_⟩
   have TB3:=tab_kept TB2 B2 k3
   refine⟨_,rfl,_,rfl,p,n,_,4,by rw[<- en];rfl,B3,by lia,by lia,by lia,by decide,by decide,fun l ps H4 hl gl lp po B4 k4=>?_⟩
   have TB4:=tab_kept TB3 B3 k4
   have W4:WebAt H4 t n ties:=by
    obtain⟨x1,x2,x3,eb,_⟩:=B3
    exact W3.kept k4 eb (fun xs z=>by cases z)
   have k04:=(k1.trans k2).trans (k3.trans k4)
   have s04:=Kept.same hp k04
   refine⟨_,rfl,_,rfl,t,l,n,ties,ps,rfl,W4,ok,pw,n7,gl,po,TB4,fun H5 b45 TB5=>⟨_,rfl,iteF ?_⟩⟩
   have B5:=B4.byt TB4 b45
   refine⟨_,rfl,p,_,rfl,B5,by lia,fun r t2 l2 n2 ties2 ps2 H6 gr m3 m7 W6 ok2 pw2 gl2 po2 _ _ B6 k6=>?_⟩
   have TB6:=tab_kept TB5 B5 k6
   refine⟨r,_,rfl,SqT.of gr,rfl,_,_,rfl,_,_,rfl,rfl,?_⟩
   refine⟨_,rfl,_,rfl,t2,l2,n2,ties2,ps2,rfl,W6,ok2,pw2,m7,gl2,po2,TB6,fun H7 b67 TB7=>⟨_,rfl,iteF ?_⟩⟩
   refine⟨_,_,_,_,_,_,_,rfl,b0.trans fun b o nb e=>b67 _ _ nb (k6 _ _ (ne_of_none e hp) (b45 _ _ nb (s04 _ _ e))),TB7⟩
  ·rintro σ H' ⟨v1,v2,v3,v4,v5,v6,v7,rfl,_⟩
   exact q H'
end
open PySem L2 PyProof.Rows
theorem leS{k:Nat}{motive:List Value->Prop}(us:List Value)(hl:us.length=k+1)(h:∀ a t,t.length=k->motive (a :: t)):motive us:=by
 cases us with
 |nil=>cases hl
 |cons a t=>exact h a t (Nat.succ.inj hl)
theorem leZ{motive:List Value->Prop}(us:List Value)(hl:us.length=0)(h:motive []):motive us:=by
 cases us with
 |nil=>exact h
 |cons a t=>cases hl
@[elab_as_elim] theorem le1{motive:List Value->Prop}(us:List Value)(hl:us.length=1)(k:∀ a0,motive [a0]):motive us:=leS (motive:=fun u=>motive (u)) us hl fun a0 t0 h0=>leZ (motive:=fun u=>motive (a0 :: u)) t0 h0 (k a0)
@[elab_as_elim] theorem le2{motive:List Value->Prop}(us:List Value)(hl:us.length=2)(k:∀ a0 a1,motive [a0,a1]):motive us:=leS (motive:=fun u=>motive (u)) us hl fun a0 t0 h0=>leS (motive:=fun u=>motive (a0 :: u)) t0 h0 fun a1 t1 h1=>leZ (motive:=fun u=>motive (a0 :: a1 :: u)) t1 h1 (k a0 a1)
@[elab_as_elim] theorem le3{motive:List Value->Prop}(us:List Value)(hl:us.length=3)(k:∀ a0 a1 a2,motive [a0,a1,a2]):motive us:=leS (motive:=fun u=>motive (u)) us hl fun a0 t0 h0=>leS (motive:=fun u=>motive (a0 :: u)) t0 h0 fun a1 t1 h1=>leS (motive:=fun u=>motive (a0 :: a1 :: u)) t1 h1 fun a2 t2 h2=>leZ (motive:=fun u=>motive (a0 :: a1 :: a2 :: u)) t2 h2 (k a0 a1 a2)
@[elab_as_elim] theorem le4{motive:List Value->Prop}(us:List Value)(hl:us.length=4)(k:∀ a0 a1 a2 a3,motive [a0,a1,a2,a3]):motive us:=leS (motive:=fun u=>motive (u)) us hl fun a0 t0 h0=>leS (motive:=fun u=>motive (a0 :: u)) t0 h0 fun a1 t1 h1=>leS (motive:=fun u=>motive (a0 :: a1 :: u)) t1 h1 fun a2 t2 h2=>leS (motive:=fun u=>motive (a0 :: a1 :: a2 :: u)) t2 h2 fun a3 t3 h3=>leZ (motive:=fun u=>motive (a0 :: a1 :: a2 :: a3 :: u)) t3 h3 (k a0 a1 a2 a3)
@[elab_as_elim] theorem le5{motive:List Value->Prop}(us:List Value)(hl:us.length=5)(k:∀ a0 a1 a2 a3 a4,motive [a0,a1,a2,a3,a4]):motive us:=leS (motive:=fun u=>motive (u)) us hl fun a0 t0 h0=>leS (motive:=fun u=>motive (a0 :: u)) t0 h0 fun a1 t1 h1=>leS (motive:=fun u=>motive (a0 :: a1 :: u)) t1 h1 fun a2 t2 h2=>leS (motive:=fun u=>motive (a0 :: a1 :: a2 :: u)) t2 h2 fun a3 t3 h3=>leS (motive:=fun u=>motive (a0 :: a1 :: a2 :: a3 :: u)) t3 h3 fun a4 t4 h4=>leZ (motive:=fun u=>motive (a0 :: a1 :: a2 :: a3 :: a4 :: u)) t4 h4 (k a0 a1 a2 a3 a4)
@[elab_as_elim] theorem le6{motive:List Value->Prop}(us:List Value)(hl:us.length=6)(k:∀ a0 a1 a2 a3 a4 a5,motive [a0,a1,a2,a3,a4,a5]):motive us:=leS (motive:=fun u=>motive (u)) us hl fun a0 t0 h0=>leS (motive:=fun u=>motive (a0 :: u)) t0 h0 fun a1 t1 h1=>leS (motive:=fun u=>motive (a0 :: a1 :: u)) t1 h1 fun a2 t2 h2=>leS (motive:=fun u=>motive (a0 :: a1 :: a2 :: u)) t2 h2 fun a3 t3 h3=>leS (motive:=fun u=>motive (a0 :: a1 :: a2 :: a3 :: u)) t3 h3 fun a4 t4 h4=>leS (motive:=fun u=>motive (a0 :: a1 :: a2 :: a3 :: a4 :: u)) t4 h4 fun a5 t5 h5=>leZ (motive:=fun u=>motive (a0 :: a1 :: a2 :: a3 :: a4 :: a5 :: u)) t5 h5 (k a0 a1 a2 a3 a4 a5)
theorem all_mk{l:PySem.W.OpenLaw}{w:World}{K:PySem.W.Frag}{h:Heap}{mg:Str->Option Value}{fa f1 f2 f3 f4 f5 f6 f7 f8 f9 f10 f11 f12 f13 f14 f15 f16 f17 f18 f19 f20 f21 f22 f23 f24 f25 f26 f27 f28 f29 f30 f31 f32:Addr}(X:K.In h)(G:h.Ns mainGlobals mg)(hfa:mg "law" = some (.ref fa))
  {od1 an1 od2 an2 od3 an3 od4 an4 od5 an5 od6 an6 od7 an7 od8 an8 od9 an9 od10 an10 od11 an11 od12 an12 od13 an13 od14 an14 od15 an15 od16 an16 od17 an17 od18 an18 od19 an19 od20 an20 od21 an21 od22 an22 od23 an23 od24 an24 od25 an25 od26 an26 od27 an27 od28 an28 od29 an29 od30 an30 od31 an31 od32 an32:Option Addr}{sl1 sl2 sl3 sl4 sl5 sl6 sl7 sl8 sl9 sl10 sl11 sl12 sl13 sl14 sl15 sl16 sl17 sl18 sl19 sl20 sl21 sl22 sl23 sl24 sl25 sl26 sl27 sl28 sl29 sl30 sl31 sl32:Array (Option Value)}{oc1 kV1 dc1 pm1 cd1 ct1 oc2 kV2 dc2 pm2 cd2 ct2 oc3 kV3 dc3 pm3 cd3 ct3 oc4 kV4 dc4 pm4 cd4 ct4 oc5 kV5 dc5 pm5 cd5 ct5 oc6 kV6 dc6 pm6 cd6 ct6 oc7 kV7 dc7 pm7 cd7 ct7 oc8 kV8 dc8 pm8 cd8 ct8 oc9 kV9 dc9 pm9 cd9 ct9 oc10 kV10 dc10 pm10 cd10 ct10 oc11 kV11 dc11 pm11 cd11 ct11 oc12 kV12 dc12 pm12 cd12 ct12 oc13 kV13 dc13 pm13 cd13 ct13 oc14 kV14 dc14 pm14 cd14 ct14 oc15 kV15 dc15 pm15 cd15 ct15 oc16 kV16 dc16 pm16 cd16 ct16 oc17 kV17 dc17 pm17 cd17 ct17 oc18 kV18 dc18 pm18 cd18 ct18 oc19 kV19 dc19 pm19 cd19 ct19 oc20 kV20 dc20 pm20 cd20 ct20 oc21 kV21 dc21 pm21 cd21 ct21 oc22 kV22 dc22 pm22 cd22 ct22 oc23 kV23 dc23 pm23 cd23 ct23 oc24 kV24 dc24 pm24 cd24 ct24 oc25 kV25 dc25 pm25 cd25 ct25 oc26 kV26 dc26 pm26 cd26 ct26 oc27 kV27 dc27 pm27 cd27 ct27 oc28 kV28 dc28 pm28 cd28 ct28 oc29 kV29 dc29 pm29 cd29 ct29 oc30 kV30 dc30 pm30 cd30 ct30 oc31 kV31 dc31 pm31 cd31 ct31 oc32 kV32 dc32 pm32 cd32 ct32:Value}
  (a1:PySem.W.nsIn K mainGlobals "flow" = some (some (.ref f1))) (l1:K.lookup f1=some ⟨oc1,od1,.func (PySem.W.fnOf "flow" "flow" (defArgs sFlow) (defBody sFlow) (defScope sFlow) .none kV1 dc1 pm1 an1 cd1 ct1),sl1⟩) (c1:PySem.W.codeIn K cd1 "flow" = true) (k1:PySem.W.keepIn K (.ref f1)=true)
  (a2:PySem.W.nsIn K mainGlobals "given_at" = some (some (.ref f2))) (l2:K.lookup f2=some ⟨oc2,od2,.func (PySem.W.fnOf "given_at" "given_at" (defArgs sGivenAt) (defBody sGivenAt) (defScope sGivenAt) .none kV2 dc2 pm2 an2 cd2 ct2),sl2⟩) (c2:PySem.W.codeIn K cd2 "given_at" = true) (k2:PySem.W.keepIn K (.ref f2)=true)
  (a3:PySem.W.nsIn K mainGlobals "value_of" = some (some (.ref f3))) (l3:K.lookup f3=some ⟨oc3,od3,.func (PySem.W.fnOf "value_of" "value_of" (defArgs sValueOf) (defBody sValueOf) (defScope sValueOf) .none kV3 dc3 pm3 an3 cd3 ct3),sl3⟩) (c3:PySem.W.codeIn K cd3 "value_of" = true) (k3:PySem.W.keepIn K (.ref f3)=true)
  (a4:PySem.W.nsIn K mainGlobals "arcs_of" = some (some (.ref f4))) (l4:K.lookup f4=some ⟨oc4,od4,.func (PySem.W.fnOf "arcs_of" "arcs_of" (defArgs sArcsOf) (defBody sArcsOf) (defScope sArcsOf) .none kV4 dc4 pm4 an4 cd4 ct4),sl4⟩) (c4:PySem.W.codeIn K cd4 "arcs_of" = true) (k4:PySem.W.keepIn K (.ref f4)=true)
  (a5:PySem.W.nsIn K mainGlobals "greatest_amounts" = some (some (.ref f5))) (l5:K.lookup f5=some ⟨oc5,od5,.func (PySem.W.fnOf "greatest_amounts" "greatest_amounts" (defArgs sGreatestAmounts) (defBody sGreatestAmounts) (defScope sGreatestAmounts) .none kV5 dc5 pm5 an5 cd5 ct5),sl5⟩) (c5:PySem.W.codeIn K cd5 "greatest_amounts" = true) (k5:PySem.W.keepIn K (.ref f5)=true)
  (a6:PySem.W.nsIn K mainGlobals "send" = some (some (.ref f6))) (l6:K.lookup f6=some ⟨oc6,od6,.func (PySem.W.fnOf "send" "send" (defArgs sSend) (defBody sSend) (defScope sSend) .none kV6 dc6 pm6 an6 cd6 ct6),sl6⟩) (c6:PySem.W.codeIn K cd6 "send" = true) (k6:PySem.W.keepIn K (.ref f6)=true)
  (a7:PySem.W.nsIn K mainGlobals "trails_from" = some (some (.ref f7))) (l7:K.lookup f7=some ⟨oc7,od7,.func (PySem.W.fnOf "trails_from" "trails_from" (defArgs sTrailsFrom) (defBody sTrailsFrom) (defScope sTrailsFrom) .none kV7 dc7 pm7 an7 cd7 ct7),sl7⟩) (c7:PySem.W.codeIn K cd7 "trails_from" = true) (k7:PySem.W.keepIn K (.ref f7)=true)
  (a8:PySem.W.nsIn K mainGlobals "way_to" = some (some (.ref f8))) (l8:K.lookup f8=some ⟨oc8,od8,.func (PySem.W.fnOf "way_to" "way_to" (defArgs sWayTo) (defBody sWayTo) (defScope sWayTo) .none kV8 dc8 pm8 an8 cd8 ct8),sl8⟩) (c8:PySem.W.codeIn K cd8 "way_to" = true) (k8:PySem.W.keepIn K (.ref f8)=true)
  (a9:PySem.W.nsIn K mainGlobals "push" = some (some (.ref f9))) (l9:K.lookup f9=some ⟨oc9,od9,.func (PySem.W.fnOf "push" "push" (defArgs sPush) (defBody sPush) (defScope sPush) .none kV9 dc9 pm9 an9 cd9 ct9),sl9⟩) (c9:PySem.W.codeIn K cd9 "push" = true) (k9:PySem.W.keepIn K (.ref f9)=true)
  (a10:PySem.W.nsIn K mainGlobals "tie_weights" = some (some (.ref f10))) (l10:K.lookup f10=some ⟨oc10,od10,.func (PySem.W.fnOf "tie_weights" "tie_weights" (defArgs sTieWeights) (defBody sTieWeights) (defScope sTieWeights) .none kV10 dc10 pm10 an10 cd10 ct10),sl10⟩) (c10:PySem.W.codeIn K cd10 "tie_weights" = true) (k10:PySem.W.keepIn K (.ref f10)=true)
  (a11:PySem.W.nsIn K mainGlobals "weight_of" = some (some (.ref f11))) (l11:K.lookup f11=some ⟨oc11,od11,.func (PySem.W.fnOf "weight_of" "weight_of" (defArgs sWeightOf) (defBody sWeightOf) (defScope sWeightOf) .none kV11 dc11 pm11 an11 cd11 ct11),sl11⟩) (c11:PySem.W.codeIn K cd11 "weight_of" = true) (k11:PySem.W.keepIn K (.ref f11)=true)
  (a12:PySem.W.nsIn K mainGlobals "without" = some (some (.ref f12))) (l12:K.lookup f12=some ⟨oc12,od12,.func (PySem.W.fnOf "without" "without" (defArgs sWithout) (defBody sWithout) (defScope sWithout) .none kV12 dc12 pm12 an12 cd12 ct12),sl12⟩) (c12:PySem.W.codeIn K cd12 "without" = true) (k12:PySem.W.keepIn K (.ref f12)=true)
  (a13:PySem.W.nsIn K mainGlobals "beside_each" = some (some (.ref f13))) (l13:K.lookup f13=some ⟨oc13,od13,.func (PySem.W.fnOf "beside_each" "beside_each" (defArgs sBesideEach) (defBody sBesideEach) (defScope sBesideEach) .none kV13 dc13 pm13 an13 cd13 ct13),sl13⟩) (c13:PySem.W.codeIn K cd13 "beside_each" = true) (k13:PySem.W.keepIn K (.ref f13)=true)
  (a14:PySem.W.nsIn K mainGlobals "heads_of" = some (some (.ref f14))) (l14:K.lookup f14=some ⟨oc14,od14,.func (PySem.W.fnOf "heads_of" "heads_of" (defArgs sHeadsOf) (defBody sHeadsOf) (defScope sHeadsOf) .none kV14 dc14 pm14 an14 cd14 ct14),sl14⟩) (c14:PySem.W.codeIn K cd14 "heads_of" = true) (k14:PySem.W.keepIn K (.ref f14)=true)
  (a15:PySem.W.nsIn K mainGlobals "spread" = some (some (.ref f15))) (l15:K.lookup f15=some ⟨oc15,od15,.func (PySem.W.fnOf "spread" "spread" (defArgs sSpread) (defBody sSpread) (defScope sSpread) .none kV15 dc15 pm15 an15 cd15 ct15),sl15⟩) (c15:PySem.W.codeIn K cd15 "spread" = true) (k15:PySem.W.keepIn K (.ref f15)=true)
  (a16:PySem.W.nsIn K mainGlobals "is_parting" = some (some (.ref f16))) (l16:K.lookup f16=some ⟨oc16,od16,.func (PySem.W.fnOf "is_parting" "is_parting" (defArgs sIsParting) (defBody sIsParting) (defScope sIsParting) .none kV16 dc16 pm16 an16 cd16 ct16),sl16⟩) (c16:PySem.W.codeIn K cd16 "is_parting" = true) (k16:PySem.W.keepIn K (.ref f16)=true)
  (a17:PySem.W.nsIn K mainGlobals "pruned" = some (some (.ref f17))) (l17:K.lookup f17=some ⟨oc17,od17,.func (PySem.W.fnOf "pruned" "pruned" (defArgs sPruned) (defBody sPruned) (defScope sPruned) .none kV17 dc17 pm17 an17 cd17 ct17),sl17⟩) (c17:PySem.W.codeIn K cd17 "pruned" = true) (k17:PySem.W.keepIn K (.ref f17)=true)
  (a18:PySem.W.nsIn K mainGlobals "singles" = some (some (.ref f18))) (l18:K.lookup f18=some ⟨oc18,od18,.func (PySem.W.fnOf "singles" "singles" (defArgs sSingles) (defBody sSingles) (defScope sSingles) .none kV18 dc18 pm18 an18 cd18 ct18),sl18⟩) (c18:PySem.W.codeIn K cd18 "singles" = true) (k18:PySem.W.keepIn K (.ref f18)=true)
  (a19:PySem.W.nsIn K mainGlobals "by_singles" = some (some (.ref f19))) (l19:K.lookup f19=some ⟨oc19,od19,.func (PySem.W.fnOf "by_singles" "by_singles" (defArgs sBySingles) (defBody sBySingles) (defScope sBySingles) .none kV19 dc19 pm19 an19 cd19 ct19),sl19⟩) (c19:PySem.W.codeIn K cd19 "by_singles" = true) (k19:PySem.W.keepIn K (.ref f19)=true)
  (a20:PySem.W.nsIn K mainGlobals "parting_by" = some (some (.ref f20))) (l20:K.lookup f20=some ⟨oc20,od20,.func (PySem.W.fnOf "parting_by" "parting_by" (defArgs sPartingBy) (defBody sPartingBy) (defScope sPartingBy) .none kV20 dc20 pm20 an20 cd20 ct20),sl20⟩) (c20:PySem.W.codeIn K cd20 "parting_by" = true) (k20:PySem.W.keepIn K (.ref f20)=true)
  (a21:PySem.W.nsIn K mainGlobals "single_ends" = some (some (.ref f21))) (l21:K.lookup f21=some ⟨oc21,od21,.func (PySem.W.fnOf "single_ends" "single_ends" (defArgs sSingleEnds) (defBody sSingleEnds) (defScope sSingleEnds) .none kV21 dc21 pm21 an21 cd21 ct21),sl21⟩) (c21:PySem.W.codeIn K cd21 "single_ends" = true) (k21:PySem.W.keepIn K (.ref f21)=true)
  (a22:PySem.W.nsIn K mainGlobals "rim_of" = some (some (.ref f22))) (l22:K.lookup f22=some ⟨oc22,od22,.func (PySem.W.fnOf "rim_of" "rim_of" (defArgs sRimOf) (defBody sRimOf) (defScope sRimOf) .none kV22 dc22 pm22 an22 cd22 ct22),sl22⟩) (c22:PySem.W.codeIn K cd22 "rim_of" = true) (k22:PySem.W.keepIn K (.ref f22)=true)
  (a23:PySem.W.nsIn K mainGlobals "_law_cell_at" = some (some (.ref f23))) (l23:K.lookup f23=some ⟨oc23,od23,.func (PySem.W.fnOf "_law_cell_at" "_law_cell_at" (defArgs sCell) (defBody sCell) (defScope sCell) .none kV23 dc23 pm23 an23 cd23 ct23),sl23⟩) (c23:PySem.W.codeIn K cd23 "_law_cell_at" = true) (k23:PySem.W.keepIn K (.ref f23)=true)
  (a24:PySem.W.nsIn K mainGlobals "_law_box" = some (some (.ref f24))) (l24:K.lookup f24=some ⟨oc24,od24,.func (PySem.W.fnOf "_law_box" "_law_box" (defArgs sBox) (defBody sBox) (defScope sBox) .none kV24 dc24 pm24 an24 cd24 ct24),sl24⟩) (c24:PySem.W.codeIn K cd24 "_law_box" = true) (k24:PySem.W.keepIn K (.ref f24)=true)
  (a25:PySem.W.nsIn K mainGlobals "_law_take" = some (some (.ref f25))) (l25:K.lookup f25=some ⟨oc25,od25,.func (PySem.W.fnOf "_law_take" "_law_take" (defArgs sTake) (defBody sTake) (defScope sTake) .none kV25 dc25 pm25 an25 cd25 ct25),sl25⟩) (c25:PySem.W.codeIn K cd25 "_law_take" = true) (k25:PySem.W.keepIn K (.ref f25)=true)
  (a26:PySem.W.nsIn K mainGlobals "_law_weight" = some (some (.ref f26))) (l26:K.lookup f26=some ⟨oc26,od26,.func (PySem.W.fnOf "_law_weight" "_law_weight" (defArgs sWeight) (defBody sWeight) (defScope sWeight) .none kV26 dc26 pm26 an26 cd26 ct26),sl26⟩) (c26:PySem.W.codeIn K cd26 "_law_weight" = true) (k26:PySem.W.keepIn K (.ref f26)=true)
  (a27:PySem.W.nsIn K mainGlobals "_law_web" = some (some (.ref f27))) (l27:K.lookup f27=some ⟨oc27,od27,.func (PySem.W.fnOf "_law_web" "_law_web" (defArgs sWeb) (defBody sWeb) (defScope sWeb) .none kV27 dc27 pm27 an27 cd27 ct27),sl27⟩) (c27:PySem.W.codeIn K cd27 "_law_web" = true) (k27:PySem.W.keepIn K (.ref f27)=true)
  (a28:PySem.W.nsIn K mainGlobals "_law_posts" = some (some (.ref f28))) (l28:K.lookup f28=some ⟨oc28,od28,.func (PySem.W.fnOf "_law_posts" "_law_posts" (defArgs sPosts) (defBody sPosts) (defScope sPosts) .none kV28 dc28 pm28 an28 cd28 ct28),sl28⟩) (c28:PySem.W.codeIn K cd28 "_law_posts" = true) (k28:PySem.W.keepIn K (.ref f28)=true)
  (a29:PySem.W.nsIn K mainGlobals "_law_least" = some (some (.ref f29))) (l29:K.lookup f29=some ⟨oc29,od29,.func (PySem.W.fnOf "_law_least" "_law_least" (defArgs sLeast) (defBody sLeast) (defScope sLeast) .none kV29 dc29 pm29 an29 cd29 ct29),sl29⟩) (c29:PySem.W.codeIn K cd29 "_law_least" = true) (k29:PySem.W.keepIn K (.ref f29)=true)
  (a30:PySem.W.nsIn K mainGlobals "_law_wheel" = some (some (.ref f30))) (l30:K.lookup f30=some ⟨oc30,od30,.func (PySem.W.fnOf "_law_wheel" "_law_wheel" (defArgs sWheel) (defBody sWheel) (defScope sWheel) .none kV30 dc30 pm30 an30 cd30 ct30),sl30⟩) (c30:PySem.W.codeIn K cd30 "_law_wheel" = true) (k30:PySem.W.keepIn K (.ref f30)=true)
  (a31:PySem.W.nsIn K mainGlobals "_law_right" = some (some (.ref f31))) (l31:K.lookup f31=some ⟨oc31,od31,.func (PySem.W.fnOf "_law_right" "_law_right" (defArgs sRight) (defBody sRight) (defScope sRight) .none kV31 dc31 pm31 an31 cd31 ct31),sl31⟩) (c31:PySem.W.codeIn K cd31 "_law_right" = true) (k31:PySem.W.keepIn K (.ref f31)=true)
  (a32:PySem.W.nsIn K mainGlobals "law" = some (some (.ref f32))) (l32:K.lookup f32=some ⟨oc32,od32,.func (PySem.W.fnOf "law" "law" (defArgs sLaw) (defBody sLaw) (defScope sLaw) .none kV32 dc32 pm32 an32 cd32 ct32),sl32⟩) (c32:PySem.W.codeIn K cd32 "law" = true) (k32:PySem.W.keepIn K (.ref f32)=true)
  {c0 B0:Addr} (e0:cd17 = .ref c0) (h0:PySem.W.codeHdIn K c0 B0=true) (n0:K.lookup B0=none)
  (z1:PySem.W.nsIn K mainGlobals "abs" = some none) (z2:PySem.W.nsIn K mainGlobals "int" = some none) (z3:PySem.W.nsIn K mainGlobals "len" = some none) (z4:PySem.W.nsIn K mainGlobals "range" = some none) (z5:PySem.W.nsIn K mainGlobals "min" = some none) (z6:PySem.W.nsIn K mainGlobals "max" = some none) (z7:PySem.W.nsIn K mainGlobals "tuple" = some none) (z8:PySem.W.nsIn K mainGlobals "sorted" = some none) (z9:PySem.W.nsIn K mainGlobals "isinstance" = some none) (z10:PySem.W.nsIn K mainGlobals "list" = some none) (z11:PySem.W.nsIn K mainGlobals "str" = some none) (z12:PySem.W.nsIn K mainGlobals "bool" = some none) (z13:PySem.W.nsIn K mainGlobals "sum" = some none) (z14:PySem.W.nsIn K mainGlobals "all" = some none) (z15:PySem.W.nsIn K mainGlobals "zip" = some none) (z16:PySem.W.nsIn K mainGlobals "enumerate" = some none) (z17:PySem.W.nsIn K mainGlobals "any" = some none) (z18:PySem.W.nsIn K mainGlobals "set" = some none) :
  PySem.W.codeHdIn K c0 B0=true/\K.lookup B0=none/\∃ fd:FuncData,(∀ (s:Shared) (v:Value),BindsTo s fd ⟨[v],[]⟩ [("_law_script",v)])/\∀ base:Heap,K.In base->base.Ns mainGlobals mg->base.BuiltinsAt mg B0->FnOk l.prog w K mg base CX0 8 fa fd ["_law_script"] (spLaw K B0):=by
 have e:=hfa.symm.trans (PySem.W.mg_of X G a32)
 cases e
 have T:Txt mg:=⟨PySem.W.mg_none_of X G z1,PySem.W.mg_none_of X G z2,PySem.W.mg_none_of X G z3,PySem.W.mg_none_of X G z4,PySem.W.mg_none_of X G z5,PySem.W.mg_none_of X G z6,PySem.W.mg_none_of X G z7,PySem.W.mg_none_of X G z8,PySem.W.mg_none_of X G z9,PySem.W.mg_none_of X G z10,PySem.W.mg_none_of X G z11,PySem.W.mg_none_of X G z12,PySem.W.mg_none_of X G z13⟩
 have T2:Txt2 mg:=⟨PySem.W.mg_none_of X G z14,PySem.W.mg_none_of X G z15,PySem.W.mg_none_of X G z16,PySem.W.mg_none_of X G z17,PySem.W.mg_none_of X G z18⟩
 have F1:=fun_mk (st:=sFlow) l1 c1 k1
 have F2:=fun_mk (st:=sGivenAt) l2 c2 k2
 have F3:=fun_mk (st:=sValueOf) l3 c3 k3
 have F4:=fun_mk (st:=sArcsOf) l4 c4 k4
 have F5:=fun_mk (st:=sGreatestAmounts) l5 c5 k5
 have F6:=fun_mk (st:=sSend) l6 c6 k6
 have F7:=fun_mk (st:=sTrailsFrom) l7 c7 k7
 have F8:=fun_mk (st:=sWayTo) l8 c8 k8
 have F9:=fun_mk (st:=sPush) l9 c9 k9
 have F10:=fun_mk (st:=sTieWeights) l10 c10 k10
 have F11:=fun_mk (st:=sWeightOf) l11 c11 k11
 have F12:=fun_mk (st:=sWithout) l12 c12 k12
 have F13:=fun_mk (st:=sBesideEach) l13 c13 k13
 have F14:=fun_mk (st:=sHeadsOf) l14 c14 k14
 have F15:=fun_mk (st:=sSpread) l15 c15 k15
 have F16:=fun_mk (st:=sIsParting) l16 c16 k16
 have F17:=fun_mk (st:=sPruned) l17 c17 k17
 have F18:=fun_mk (st:=sSingles) l18 c18 k18
 have F19:=fun_mk (st:=sBySingles) l19 c19 k19
 have F20:=fun_mk (st:=sPartingBy) l20 c20 k20
 have F21:=fun_mk (st:=sSingleEnds) l21 c21 k21
 have F22:=fun_mk (st:=sRimOf) l22 c22 k22
 have F23:=fun_mk (st:=sCell) l23 c23 k23
 have F24:=fun_mk (st:=sBox) l24 c24 k24
 have F25:=fun_mk (st:=sTake) l25 c25 k25
 have F26:=fun_mk (st:=sWeight) l26 c26 k26
 have F27:=fun_mk (st:=sWeb) l27 c27 k27
 have F28:=fun_mk (st:=sPosts) l28 c28 k28
 have F29:=fun_mk (st:=sLeast) l29 c29 k29
 have F30:=fun_mk (st:=sWheel) l30 c30 k30
 have F31:=fun_mk (st:=sRight) l31 c31 k31
 have F32:=fun_mk (st:=sLaw) l32 c32 k32
 have b1:=F1.binds (ps:=["web","sources","sinks"]) fun _ _ _ _ _ _ us hl=>le3 us hl fun _ _ _=>rfl
 have b2:=F2.binds (ps:=["web","amounts"]) fun _ _ _ _ _ _ us hl=>le2 us hl fun _ _=>rfl
 have b3:=F3.binds (ps:=["web","amounts","sources"]) fun _ _ _ _ _ _ us hl=>le3 us hl fun _ _ _=>rfl
 have b4:=F4.binds (ps:=["web"]) fun _ _ _ _ _ _ us hl=>le1 us hl fun _=>rfl
 have b5:=F5.binds (ps:=["web","arcs","sources","sinks"]) fun _ _ _ _ _ _ us hl=>le4 us hl fun _ _ _ _=>rfl
 have b6:=F6.binds (ps:=["web","arcs","amounts","sources","sinks","most"]) fun _ _ _ _ _ _ us hl=>le6 us hl fun _ _ _ _ _ _=>rfl
 have b7:=F7.binds (ps:=["web","arcs","amounts","starts","turn"]) fun _ _ _ _ _ _ us hl=>le5 us hl fun _ _ _ _ _=>rfl
 have b8:=F8.binds (ps:=["trails","end"]) fun _ _ _ _ _ _ us hl=>le2 us hl fun _ _=>rfl
 have b9:=F9.binds (ps:=["web","amounts","way","most"]) fun _ _ _ _ _ _ us hl=>le4 us hl fun _ _ _ _=>rfl
 have b10:=F10.binds (ps:=["web"]) fun _ _ _ _ _ _ us hl=>le1 us hl fun _=>rfl
 have b11:=F11.binds (ps:=["web","cut"]) fun _ _ _ _ _ _ us hl=>le2 us hl fun _ _=>rfl
 have b12:=F12.binds (ps:=["web","cut"]) fun _ _ _ _ _ _ us hl=>le2 us hl fun _ _=>rfl
 have b13:=F13.binds (ps:=["web"]) fun _ _ _ _ _ _ us hl=>le1 us hl fun _=>rfl
 have b14:=F14.binds (ps:=["web"]) fun _ _ _ _ _ _ us hl=>le1 us hl fun _=>rfl
 have b15:=F15.binds (ps:=["beside","heads","head"]) fun _ _ _ _ _ _ us hl=>le3 us hl fun _ _ _=>rfl
 have b16:=F16.binds (ps:=["web","posts","cut"]) fun _ _ _ _ _ _ us hl=>le3 us hl fun _ _ _=>rfl
 have b17:=F17.binds (ps:=["web","posts","cut"]) fun _ _ _ _ _ _ us hl=>le3 us hl fun _ _ _=>rfl
 have b18:=F18.binds (ps:=["web","posts"]) fun _ _ _ _ _ _ us hl=>le2 us hl fun _ _=>rfl
 have b19:=F19.binds (ps:=["web","posts"]) fun _ _ _ _ _ _ us hl=>le2 us hl fun _ _=>rfl
 have b20:=F20.binds (ps:=["web","posts","papers"]) fun _ _ _ _ _ _ us hl=>le3 us hl fun _ _ _=>rfl
 have b21:=F21.binds (ps:=["posts"]) fun _ _ _ _ _ _ us hl=>le1 us hl fun _=>rfl
 have b22:=F22.binds (ps:=["web","sides"]) fun _ _ _ _ _ _ us hl=>le2 us hl fun _ _=>rfl
 have b23:=F23.binds (ps:=["_law_script","_law_k"]) fun _ _ _ _ _ _ us hl=>le2 us hl fun _ _=>rfl
 have b24:=F24.binds (ps:=["_law_script","_law_k"]) fun _ _ _ _ _ _ us hl=>le2 us hl fun _ _=>rfl
 have b25:=F25.binds (ps:=["_law_box_here","_law_many_here"]) fun _ _ _ _ _ _ us hl=>le2 us hl fun _ _=>rfl
 have b26:=F26.binds (ps:=["_law_box_here","_law_heavy"]) fun _ _ _ _ _ _ us hl=>le2 us hl fun _ _=>rfl
 have b27:=F27.binds (ps:=["_law_box_here","_law_many_here"]) fun _ _ _ _ _ _ us hl=>le2 us hl fun _ _=>rfl
 have b28:=F28.binds (ps:=["_law_box_here","_law_many_here","_law_most"]) fun _ _ _ _ _ _ us hl=>le3 us hl fun _ _ _=>rfl
 have b29:=F29.binds (ps:=["_law_web_here","_law_posts_here"]) fun _ _ _ _ _ _ us hl=>le2 us hl fun _ _=>rfl
 have b30:=F30.binds (ps:=["_law_box_here"]) fun _ _ _ _ _ _ us hl=>le1 us hl fun _=>rfl
 have b31:=F31.binds (ps:=["_law_web_here","_law_posts_here"]) fun _ _ _ _ _ _ us hl=>le2 us hl fun _ _=>rfl
 have m1:=PySem.W.mg_of X G a1
 have m2:=PySem.W.mg_of X G a2
 have m3:=PySem.W.mg_of X G a3
 have m4:=PySem.W.mg_of X G a4
 have m5:=PySem.W.mg_of X G a5
 have m6:=PySem.W.mg_of X G a6
 have m7:=PySem.W.mg_of X G a7
 have m8:=PySem.W.mg_of X G a8
 have m9:=PySem.W.mg_of X G a9
 have m10:=PySem.W.mg_of X G a10
 have m11:=PySem.W.mg_of X G a11
 have m12:=PySem.W.mg_of X G a12
 have m13:=PySem.W.mg_of X G a13
 have m14:=PySem.W.mg_of X G a14
 have m15:=PySem.W.mg_of X G a15
 have m16:=PySem.W.mg_of X G a16
 have m17:=PySem.W.mg_of X G a17
 have m18:=PySem.W.mg_of X G a18
 have m19:=PySem.W.mg_of X G a19
 have m20:=PySem.W.mg_of X G a20
 have m21:=PySem.W.mg_of X G a21
 have m22:=PySem.W.mg_of X G a22
 have m23:=PySem.W.mg_of X G a23
 have m24:=PySem.W.mg_of X G a24
 have m25:=PySem.W.mg_of X G a25
 have m26:=PySem.W.mg_of X G a26
 have m27:=PySem.W.mg_of X G a27
 have m28:=PySem.W.mg_of X G a28
 have m29:=PySem.W.mg_of X G a29
 have m30:=PySem.W.mg_of X G a30
 have m31:=PySem.W.mg_of X G a31
 have m32:=PySem.W.mg_of X G a32
 refine⟨h0,n0,PySem.W.fnOf "law" "law" (defArgs sLaw) (defBody sLaw) (defScope sLaw) .none kV32 dc32 pm32 an32 cd32 ct32,fun s v=>.of_eq rfl,fun base KB _ hB=>?_⟩
 have TK:TakeF l.prog w K mg base f25 _:=⟨ok_take F25,m25,k25,b25⟩
 have C__law_box:CalF l.prog w K mg base 2 "_law_box" ["_law_script","_law_k"] (spBox K) f24 _:=⟨ok_box F24 T F23 m23 b23,m24,k24,b24⟩
 have TW:WeightF l.prog w K mg base f26 _:=⟨ok_weight F26 TK,m26,k26,b26⟩
 have C__law_web:CalF l.prog w K mg base 3 "_law_web" ["_law_box_here","_law_many_here"] spWeb f27 _:=⟨ok_web F27 T TK TW,m27,k27,b27⟩
 have C__law_posts:CalF l.prog w K mg base 2 "_law_posts" ["_law_box_here","_law_many_here","_law_most"] spPo f28 _:=⟨ok_po F28 T TK,m28,k28,b28⟩
 have C_single_ends:CalF l.prog w K mg base 1 "single_ends" ["posts"] spSn f21 _:=⟨ok_sn F21,m21,k21,b21⟩
 have C_arcs_of:CalF l.prog w K mg base 1 "arcs_of" ["web"] spAr f4 _:=⟨ok_ar F4 T T2,m4,k4,b4⟩
 have C_trails_from:CalF l.prog w K mg base 1 "trails_from" ["web","arcs","amounts","starts","turn"] spTr f7 _:=⟨ok_tr F7 T,m7,k7,b7⟩
 have C_way_to:CalF l.prog w K mg base 1 "way_to" ["trails","end"] spWy f8 _:=⟨ok_wy F8,m8,k8,b8⟩
 have C_push:CalF l.prog w K mg base 1 "push" ["web","amounts","way","most"] spPu f9 _:=⟨ok_pu F9 T,m9,k9,b9⟩
 have C_send:CalF l.prog w K mg base 2 "send" ["web","arcs","amounts","sources","sinks","most"] spSe f6 _:=⟨ok_se F6 C_trails_from C_way_to C_push,m6,k6,b6⟩
 have C_greatest_amounts:CalF l.prog w K mg base 3 "greatest_amounts" ["web","arcs","sources","sinks"] spGa f5 _:=⟨ok_ga F5 T C_send,m5,k5,b5⟩
 have C_given_at:CalF l.prog w K mg base 1 "given_at" ["web","amounts"] spGv f2 _:=⟨ok_gv F2 T2,m2,k2,b2⟩
 have C_value_of:CalF l.prog w K mg base 2 "value_of" ["web","amounts","sources"] spVa f3 _:=⟨ok_va F3 T C_given_at,m3,k3,b3⟩
 have C_flow:CalF l.prog w K mg base 4 "flow" ["web","sources","sinks"] spFl f1 _:=⟨ok_fl F1 T C_arcs_of C_greatest_amounts C_trails_from C_value_of,m1,k1,b1⟩
 have C_singles:CalF l.prog w K mg base 5 "singles" ["web","posts"] spSg f18 _:=⟨ok_sg F18 C_single_ends C_flow,m18,k18,b18⟩
 have C_tie_weights:CalF l.prog w K mg base 1 "tie_weights" ["web"] spTW f10 _:=⟨ok_tw F10,m10,k10,b10⟩
 have C_without:CalF l.prog w K mg base 1 "without" ["web","cut"] (spWout K) f12 _:=⟨ok_wout F12 T,m12,k12,b12⟩
 have C_beside_each:CalF l.prog w K mg base 1 "beside_each" ["web"] spBes f13 _:=⟨ok_bes F13 T,m13,k13,b13⟩
 have C_spread:CalF l.prog w K mg base 1 "spread" ["beside","heads","head"] spSpr f15 _:=⟨ok_spr F15,m15,k15,b15⟩
 have C_heads_of:CalF l.prog w K mg base 2 "heads_of" ["web"] spHds f14 _:=⟨ok_hds F14 T C_beside_each C_spread,m14,k14,b14⟩
 have C_is_parting:CalF l.prog w K mg base 3 "is_parting" ["web","posts","cut"] (spIP K) f16 _:=⟨ok_ip F16 T C_without C_heads_of,m16,k16,b16⟩
 have C_pruned:CalF l.prog w K mg base 4 "pruned" ["web","posts","cut"] (spPr B0) f17 _:=⟨ok_pr F17 T e0 (PySem.W.codeHd_of_K KB h0) hB C_tie_weights C_is_parting,m17,k17,b17⟩
 have C_rim_of:CalF l.prog w K mg base 1 "rim_of" ["web","sides"] spRm f22 _:=⟨ok_rm F22 T T2,m22,k22,b22⟩
 have C_weight_of:CalF l.prog w K mg base 2 "weight_of" ["web","cut"] (spWO K) f11 _:=⟨ok_wo F11 T C_tie_weights,m11,k11,b11⟩
 have C_parting_by:CalF l.prog w K mg base 5 "parting_by" ["web","posts","papers"] (spPb B0) f20 _:=⟨ok_pb F20 T T2 C_pruned C_rim_of C_weight_of,m20,k20,b20⟩
 have C_by_singles:CalF l.prog w K mg base 6 "by_singles" ["web","posts"] (spBs B0) f19 _:=⟨ok_bs F19 C_singles C_parting_by,m19,k19,b19⟩
 have C__law_least:CalF l.prog w K mg base 1 "_law_least" ["_law_web_here","_law_posts_here"] spLe f29 _:=⟨ok_le F29 T,m29,k29,b29⟩
 have C__law_right:CalF l.prog w K mg base 7 "_law_right" ["_law_web_here","_law_posts_here"] (spRi B0) f31 _:=⟨ok_ri F31 T C_by_singles C__law_least,m31,k31,b31⟩
 have C__law_wheel:CalF l.prog w K mg base 2 "_law_wheel" ["_law_box_here"] spWh f30 _:=⟨ok_wh F30 T TK,m30,k30,b30⟩
 exact ok_law F32 T TK ⟨C__law_box,C__law_web,C__law_posts,C__law_right,C__law_wheel⟩
theorem walk{l:PySem.W.OpenLaw}{q:Program}{loose:List Str}{XP:(Str->Option Value)->Heap->Prop}{YP:World->Heap->Prop}{d:DefRec}{K:Params->PySem.W.Frag}{c0 B0:Addr}(hn:l.most=some 63)(hdf:d.params.defaults=[])(hY:∀ (w:World) (h:Heap),YP w h->(K w.params).In h/\h.get? B0=some (PySem.W.tabObj #[]))
  (F:∀ (w:World) (mg:Str->Option Value) (fa:Addr) (h:Heap),(K w.params).In h->h.Ns mainGlobals mg->mg d.name=some (.ref fa)->PySem.W.codeHdIn (K w.params) c0 B0=true/\(K w.params).lookup B0=none/\∃ fd:FuncData,(∀ (s:Shared) (u:Value),BindsTo s fd ⟨[u],[]⟩ [("_law_script",u)])/\∀ base:Heap,(K w.params).In base->base.Ns mainGlobals mg->base.BuiltinsAt mg B0->FnOk l.prog w (K w.params) mg base CX0 8 fa fd ["_law_script"] (spLaw (K w.params) B0)) :
  PySem.W.WalkO q loose XP YP l.row.toRowW d [] (fun f vs=>PySem.call f vs) :=
 L2.walk_ofT (n:=63) (k:=8) (x:="_law_script") (c:=c0) (T:=B0) (sp:=fun w=>spLaw (K w.params) B0) hn (by decide) hdf ⟨rfl,by decide,by decide,rfl⟩ hY F (fun _ _ a ns hl hO hS=>⟨a,ns,rfl,hS,hl,.inl hO.1,fun _=>rfl⟩)
end K19
open PySem PySem.W PyProof.Rows
set_option maxRecDepth 100000 in
set_option maxHeartbeats 0 in
theorem PySem.Challenge.cw_partedweb_k19_single_cuts_beside_the_lea_holds : PySem.Challenge.rw_partedweb_k19_single_cuts_beside_the_lea.Holds := by
  w_on; o_law; k_head; (case hw => w_witness2)
  k_fill
  refine' K19.walk (c0 := ?c0) (B0 := 106) (l := PySem.Challenge.rw_partedweb_k19_single_cuts_beside_the_lea) rfl rfl (fun w h Y => ⟨PySem.W.km_in_of Y, PySem.W.km_tabs_of Y 106 (by simp)⟩) ?F
  case F =>
    intro w mg fa h KX G hmg
    refine' K19.all_mk KX G hmg ?a1 ?l1 ?c1 ?k1 ?a2 ?l2 ?c2 ?k2 ?a3 ?l3 ?c3 ?k3 ?a4 ?l4 ?c4 ?k4 ?a5 ?l5 ?c5 ?k5 ?a6 ?l6 ?c6 ?k6 ?a7 ?l7 ?c7 ?k7 ?a8 ?l8 ?c8 ?k8 ?a9 ?l9 ?c9 ?k9 ?a10 ?l10 ?c10 ?k10 ?a11 ?l11 ?c11 ?k11 ?a12 ?l12 ?c12 ?k12 ?a13 ?l13 ?c13 ?k13 ?a14 ?l14 ?c14 ?k14 ?a15 ?l15 ?c15 ?k15 ?a16 ?l16 ?c16 ?k16 ?a17 ?l17 ?c17 ?k17 ?a18 ?l18 ?c18 ?k18 ?a19 ?l19 ?c19 ?k19 ?a20 ?l20 ?c20 ?k20 ?a21 ?l21 ?c21 ?k21 ?a22 ?l22 ?c22 ?k22 ?a23 ?l23 ?c23 ?k23 ?a24 ?l24 ?c24 ?k24 ?a25 ?l25 ?c25 ?k25 ?a26 ?l26 ?c26 ?k26 ?a27 ?l27 ?c27 ?k27 ?a28 ?l28 ?c28 ?k28 ?a29 ?l29 ?c29 ?k29 ?a30 ?l30 ?c30 ?k30 ?a31 ?l31 ?c31 ?k31 ?a32 ?l32 ?c32 ?k32 ?e0 ?h0 ?n0 ?z1 ?z2 ?z3 ?z4 ?z5 ?z6 ?z7 ?z8 ?z9 ?z10 ?z11 ?z12 ?z13 ?z14 ?z15 ?z16 ?z17 ?z18
    (case a1 => k_is); (case l1 => k_is); (case c1 => k_is); (case k1 => k_is); (case a2 => k_is); (case l2 => k_is)
    (case c2 => k_is); (case k2 => k_is); (case a3 => k_is); (case l3 => k_is); (case c3 => k_is); (case k3 => k_is)
    (case a4 => k_is); (case l4 => k_is); (case c4 => k_is); (case k4 => k_is); (case a5 => k_is); (case l5 => k_is)
    (case c5 => k_is); (case k5 => k_is); (case a6 => k_is); (case l6 => k_is); (case c6 => k_is); (case k6 => k_is)
    (case a7 => k_is); (case l7 => k_is); (case c7 => k_is); (case k7 => k_is); (case a8 => k_is); (case l8 => k_is)
    (case c8 => k_is); (case k8 => k_is); (case a9 => k_is); (case l9 => k_is); (case c9 => k_is); (case k9 => k_is)
    (case a10 => k_is); (case l10 => k_is); (case c10 => k_is); (case k10 => k_is); (case a11 => k_is); (case l11 => k_is)
    (case c11 => k_is); (case k11 => k_is); (case a12 => k_is); (case l12 => k_is); (case c12 => k_is); (case k12 => k_is)
    (case a13 => k_is); (case l13 => k_is); (case c13 => k_is); (case k13 => k_is); (case a14 => k_is); (case l14 => k_is)
    (case c14 => k_is); (case k14 => k_is); (case a15 => k_is); (case l15 => k_is); (case c15 => k_is); (case k15 => k_is)
    (case a16 => k_is); (case l16 => k_is); (case c16 => k_is); (case k16 => k_is); (case a17 => k_is); (case l17 => k_is)
    (case c17 => k_is); (case k17 => k_is); (case a18 => k_is); (case l18 => k_is); (case c18 => k_is); (case k18 => k_is)
    (case a19 => k_is); (case l19 => k_is); (case c19 => k_is); (case k19 => k_is); (case a20 => k_is); (case l20 => k_is)
    (case c20 => k_is); (case k20 => k_is); (case a21 => k_is); (case l21 => k_is); (case c21 => k_is); (case k21 => k_is)
    (case a22 => k_is); (case l22 => k_is); (case c22 => k_is); (case k22 => k_is); (case a23 => k_is); (case l23 => k_is)
    (case c23 => k_is); (case k23 => k_is); (case a24 => k_is); (case l24 => k_is); (case c24 => k_is); (case k24 => k_is)
    (case a25 => k_is); (case l25 => k_is); (case c25 => k_is); (case k25 => k_is); (case a26 => k_is); (case l26 => k_is)
    (case c26 => k_is); (case k26 => k_is); (case a27 => k_is); (case l27 => k_is); (case c27 => k_is); (case k27 => k_is)
    (case a28 => k_is); (case l28 => k_is); (case c28 => k_is); (case k28 => k_is); (case a29 => k_is); (case l29 => k_is)
    (case c29 => k_is); (case k29 => k_is); (case a30 => k_is); (case l30 => k_is); (case c30 => k_is); (case k30 => k_is)
    (case a31 => k_is); (case l31 => k_is); (case c31 => k_is); (case k31 => k_is); (case a32 => k_is); (case l32 => k_is)
    (case c32 => k_is); (case k32 => k_is); (case e0 => exact rfl); (case h0 => kernel_rfl); (case n0 => kernel_rfl); (case z1 => k_is)
    (case z2 => k_is); (case z3 => k_is); (case z4 => k_is); (case z5 => k_is); (case z6 => k_is); (case z7 => k_is)
    (case z8 => k_is); (case z9 => k_is); (case z10 => k_is); (case z11 => k_is); (case z12 => k_is); (case z13 => k_is)
    (case z14 => k_is); (case z15 => k_is); (case z16 => k_is); (case z17 => k_is); (case z18 => k_is)
#print axioms PySem.Challenge.cw_partedweb_k19_single_cuts_beside_the_lea_holds
