import PyProof.Rows.All
import Wide.All
import OpenK.AllK
import Wide.FinOn
import Lean
import PyProof.EqAt
import PyProof.EqKinds
import PyProof.TupleCall
import PySem.Challenge.RW_partedweb_k40_least_on_trees
set_option Elab.async false
set_option linter.all false
set_option maxRecDepth 100000
namespace L2
open PySem PySem.Spec PyProof.Rows
noncomputable abbrev Key:=Sum Int Str
noncomputable def keyIs:Key->Value->Bool
 | .inl k,v=>Value.isInt k v
 | .inr x,v=>Value.isStrOf x v
noncomputable def keyH(w:World):Key->Int
 | .inl k=>hashInt k
 | .inr x=>hashStr w x
theorem keyIs_shape:∀ {k:Key}{v:Value},keyIs k v=true->(∃ i t,k=Sum.inl i/\v=Value.int i t)\/(∃ x t,k=Sum.inr x/\v=Value.str x t)
 | .inl i,v,h=>by
  obtain⟨t,e⟩:=Value.isInt_shape (k:=i) (v:=v) h
  exact .inl ⟨i,t,rfl,e⟩
 | .inr x,v,h=>by
  obtain⟨t,e⟩:=Value.isStrOf_shape (x:=x) (v:=v) h
  exact .inr ⟨x,t,rfl,e⟩
theorem keyIs_int(i:Int)(t:Tok):keyIs (.inl i) (.int i t)=true:=by simp[keyIs,Value.isInt]
theorem keyIs_str(x:Str)(t:Tok):keyIs (.inr x) (.str x t)=true:=by simp[keyIs,Value.isStrOf]
theorem key_ll(a b:Int):decide ((Sum.inl a:Key)=Sum.inl b)=(a == b):=by
 by_cases e:a=b
 ·subst e;simp
 ·have h:¬(Sum.inl a:Key)=Sum.inl b:=fun q=>e (Sum.inl.inj q)
  rw[decide_eq_false h]
  exact(beq_eq_false_iff_ne.mpr e).symm
theorem key_rr(a b:Str):decide ((Sum.inr a:Key)=Sum.inr b)=decide (a=b):=by
 by_cases e:a=b
 ·subst e;simp
 ·have h:¬(Sum.inr a:Key)=Sum.inr b:=fun q=>e (Sum.inr.inj q)
  rw[decide_eq_false h,decide_eq_false e]
theorem key_lr(a:Int)(b:Str):decide ((Sum.inl a:Key)=Sum.inr b)=false:=decide_eq_false (fun q=>nomatch q)
theorem key_rl(a:Str)(b:Int):decide ((Sum.inr a:Key)=Sum.inl b)=false:=decide_eq_false (fun q=>nomatch q)
noncomputable def mixKind(prog:Program)(w:World):PySem.KeyKind prog w Key where
 is:=keyIs
 hash:=keyH w
 inj:=fun v a b ha hb=>by
  rcases keyIs_shape ha with⟨i,t,rfl,rfl⟩ |⟨x,t,rfl,rfl⟩
  ·rcases keyIs_shape hb with⟨j,u,rfl,e⟩ |⟨y,u,rfl,e⟩
   ·injection e with e1 _;rw[e1]
   ·exact nomatch e
  ·rcases keyIs_shape hb with⟨j,u,rfl,e⟩ |⟨y,u,rfl,e⟩
   ·exact nomatch e
   ·injection e with e1 _;rw[e1]
 byValue:=fun k v h=>by
  rcases keyIs_shape h with⟨i,t,rfl,rfl⟩ |⟨x,t,rfl,rfl⟩ <;> rfl
 pyHash:=fun hv h=>by
  rcases keyIs_shape hv with⟨i,t,rfl,rfl⟩ |⟨x,t,rfl,rfl⟩
  ·exact wpAny_pyHash_int h
  ·exact wpAny_pyHash_str h
 eqBool:=fun hu hv h=>by
  rcases keyIs_shape hu with⟨i,t,rfl,rfl⟩ |⟨x,t,rfl,rfl⟩
  ·rcases keyIs_shape hv with⟨j,u,rfl,rfl⟩ |⟨y,u,rfl,rfl⟩
   ·rw[key_ll]at h;exact wpAny_eqBool_int h
   ·rw[key_lr]at h;exact SeqAt.EqAt.int_str i t y u _ _ _ _ h
  ·rcases keyIs_shape hv with⟨j,u,rfl,rfl⟩ |⟨y,u,rfl,rfl⟩
   ·rw[key_rl]at h;exact SeqAt.EqAt.str_int x t j u _ _ _ _ h
   ·rw[key_rr]at h;exact wpAny_eqBool_str h
 «strs»:=fun k x t v h=>by
  rcases keyIs_shape h with⟨i,u,rfl,e⟩ |⟨y,u,rfl,e⟩
  ·exact nomatch e
  ·injection e with e1 _
   subst e1
   cases v <;> rfl
theorem mixKind_int(prog:Program)(w:World)(i:Int)(t:Tok):(mixKind prog w).is (.inl i) (.int i t)=true:=keyIs_int i t
theorem mixKind_str(prog:Program)(w:World)(x:Str)(t:Tok):(mixKind prog w).is (.inr x) (.str x t)=true:=keyIs_str x t
open PySem PySem.Spec PyProof.Rows
inductive V where
 |non | bl (b:Bool) | int (i:Int) | str (x:Str) | byt (b:Array UInt8) | flt (b:UInt64) | ref (a:Addr) | ty (n:String)
 deriving DecidableEq
noncomputable def RelV:V->Value->Prop
 | .non,u=>u=Value.none
 | .bl b,u=>u=Value.bool b
 | .int i,u=>∃ t,u=Value.int i t
 | .str x,u=>∃ t,u=Value.str x t
 | .byt b,u=>∃ t,u=Value.bytes b t
 | .flt b,u=>∃ t,u=Value.float b t
 | .ref a,u=>u=Value.ref a
 | .ty n,u=>u=Value.type n
noncomputable abbrev Vals:List V->List Value->Prop:=Paired RelV
theorem Vals.length{xs:List V}{us:List Value}(r:Vals xs us):xs.length=us.length:=Paired.length r
theorem Vals.get:∀ {xs:List V}{us:List Value}{i:Nat}{x:V},Vals xs us->xs[i]?=some x->∃ u,us[i]?=some u/\RelV x u
 | _,_,_,_,.nil,e=>by simp at e
 | _,_,0,_,.cons r _,e=>by simp at e;subst e;exact⟨_,rfl,r⟩
 | _,_,i+1,x,.cons _ t,e=>by
  obtain⟨u,h1,h2⟩:=Vals.get (i:=i) (x:=x) t (by simpa using e)
  exact⟨u,by simpa using h1,h2⟩
theorem Vals.set{x:V}{u:Value}(r:RelV x u):∀ {xs:List V}{us:List Value} (i:Nat),Vals xs us->Vals (xs.set i x) (us.set i u)
 | _,_,_,.nil=>.nil
 | _,_,0,.cons _ t=>.cons r t
 | _,_,i+1,.cons q t=>.cons q (Vals.set r i t)
theorem Vals.append:∀ {xs ys:List V}{us ws:List Value},Vals xs us->Vals ys ws->Vals (xs++ys) (us++ws)
 | _,_,_,_,.nil,s=>s
 | _,_,_,_,.cons r t,s=>.cons r (Vals.append t s)
theorem Vals.take:∀ {xs:List V}{us:List Value} (n:Nat),Vals xs us->Vals (xs.take n) (us.take n)
 | _,_,0,_=>.nil
 | _,_,_+1,.nil=>.nil
 | _,_,n+1,.cons r t=>.cons r (Vals.take n t)
theorem Vals.drop:∀ {xs:List V}{us:List Value} (n:Nat),Vals xs us->Vals (xs.drop n) (us.drop n)
 | _,_,0,r=>r
 | _,_,_+1,.nil=>.nil
 | _,_,n+1,.cons _ t=>Vals.drop n t
noncomputable def RelO:Option V->Option Value->Prop
 |some v,some u=>RelV v u
 |none,none=>True
 | _,_=>False
noncomputable def KV{κ:Type}:List (κ×V)->List (κ×Value)->Prop:=Paired fun(p:κ×V) (q:κ×Value)=>p.1=q.1/\RelV p.2 q.2
noncomputable def kV:Key->V
 | .inl i=>.int i
 | .inr x=>.str x
inductive HO where
 /-- a list -/
 |lst (xs:List V)
 /-- a tuple (never changes) -/
 |tup (xs:List V)
 /-- a dict whose keys are ints and texts;one whose keys are tuples of ints and texts (the empty one is both) -/
 |dK (kvs:List (Key×V)) | dT (kvs:List (List Key×V))
 /-- a set of ints: its members,its size -/
 |set (S:Int->Bool) (n:Nat)
 /-- an instance of the class at C,its dict at dx,its attributes -/
 |ins (C dx:Addr) (fs:List (Str×V))
 /-- the dict of the instance at x -/
 |own (x:Addr)
 /-- the dict of an exception -/
 |xd (fs:List (Str×V))
 /-- a bound method,f of x -/
 |met (f x:Addr)
 /-- a range object lo,lo+1,.. below hi -/
 |rng (lo hi:Int)
 /-- a thing that is known to the object (the script;a dict while a loop walks it): read,never written while it is so -/
 |frz (o:Obj) (u:HO)
 /-- a code object's table -/
 |tbl (ps:Array Value)
 /-- any other thing,by what is true of its one object (a def of one's own: SetO a S n:=HO.ext fun h=>..) -/
 |ext (φ:Heap->Prop)
noncomputable abbrev Hp:=Addr->Option HO
noncomputable def upd(H:Hp)(a:Addr)(o:HO):Hp:=fun b=>if b=a then some o else H b
theorem upd_same{H:Hp}{a:Addr}{o:HO}:upd H a o a=some o:=by unfold upd;rw[if_pos rfl]
theorem upd_ne{H:Hp}{a b:Addr}{o:HO}(h:b≠a):upd H a o b=H b:=by unfold upd;rw[if_neg h]
theorem ne_of{H:Hp}{a b:Addr}{o u:HO}(h:H a=some o)(h':H b=some u)(d:o≠u):a≠b:=by
 intro e;subst e;rw[h]at h';exact d (Option.some.inj h')
theorem ne_of_none{H:Hp}{a b:Addr}{o:HO}(h:H a=some o)(h':H b=none):a≠b:=by
 intro e;subst e;rw[h]at h';cases h'
section
variable(P:Program)(w:World)
noncomputable def ObjOk(H:Hp)(h:Heap)(a:Addr):HO->Prop
 | .lst xs=>xs.length<=sizeLine/\∃ (its:List Value) (n:Nat),Vals xs its/\h.get? a=some { cls:=.type "list",data:=.seq its.toArray n }
 | .tup xs=>xs.length<=sizeLine/\∃ its:List Value,Vals xs its/\IsTup h a its.toArray
 | .dK kvs=>kvs.length<=sizeLine/\(a == sysModules)=false/\∃ vs,KV kvs vs/\h.DictOf (mixKind P w) a vs
 | .dT kvs=>kvs.length<=sizeLine/\(a == sysModules)=false/\∃ xs:List (List Key×Addr×Value),
   Paired (fun(p:List Key×V) (q:List Key×Addr×Value)=>p.1=q.1/\H q.2.1=some (.tup (p.1.map kV))/\RelV p.2 q.2.2) kvs xs /\
   ∃ o es ep,h.get? a=some o/\o.ExactDict/\o.data = .dict es ep/\es.toList=xs.map (entryOfKey (tupleKind (mixKind P w)))/\(xs.map (·.1)).Nodup
 | .set S n=>h.SetOf (intKind P w) a S n
 | .ins C dx fs=>H dx=some (.own a)/\fs.length<=1000/\dx≠a/\h.get? a=some (PySem.W.instObj C dx) /\
   ∃ mA,h.Ns1 dx mA/\(∀ f,RelO (fs.lookup f) (mA f))/\PySem.Within mA (fs.map (·.1))
 | .own _=>∃ o,h.get? a=some o
 | .xd fs=>∃ mA,h.Ns1 a mA/\∀ f,RelO (fs.lookup f) (mA f)
 | .rng lo hi=>∃ t u v,h.get? a=some { cls:=.type "range",data:=.fields #[.int lo t,.int hi u,.int 1 v] }
 | .frz o u=>h.get? a=some o/\ObjOk H h a u
 | .tbl ps=>h.get? a=some { cls:=.none,data:=.fields ps }
 | .met f x=>h.get? a=some (PySem.W.methodObj (.ref f) (.ref x))
 | .ext φ=>φ h/\(∃ o,h.get? a=some o)/\∀ h1 h2:Heap,φ h1->(∀ o,h1.get? a=some o->h2.get? a=some o)->φ h2
noncomputable def HOk(H:Hp)(h:Heap):Prop:=∀ a o,H a=some o->ObjOk P w H h a o
end
section
variable{P:Program}{w:World}{H H':Hp}{h h':Heap}{a:Addr}{o:HO}
theorem ObjOk.lt(x:ObjOk P w H h a o):a<h.objs.size:=by
 cases o with
 |lst xs=>obtain⟨_,_,_,_,e⟩:=x;exact Heap.lt_size e
 |tup xs=>obtain⟨_,_,_,p⟩:=x;exact p.lt
 |dK kvs=>obtain⟨_,_,_,_,o,_,_,e,_⟩:=x;exact Heap.lt_size e
 |dT kvs=>obtain⟨_,_,_,_,o,_,_,e,_⟩:=x;exact Heap.lt_size e
 |set S n=>obtain⟨o,_,_,_,e,_⟩:=x;exact Heap.lt_size e
 |ins C dx fs=>obtain⟨_,_,_,e,_⟩:=x;exact Heap.lt_size e
 |own y=>obtain⟨_,e⟩:=x;exact Heap.lt_size e
 |xd fs=>obtain⟨_,⟨_,_,_,e,_⟩,_⟩:=x;exact Heap.lt_size e
 |rng lo hi=>obtain⟨_,_,_,e⟩:=x;exact Heap.lt_size e
 |frz ob u=>obtain⟨e,_⟩:=x;exact Heap.lt_size e
 |tbl ps=>exact Heap.lt_size (show h.get? a=some _ from x)
 |met f y=>exact Heap.lt_size (show h.get? a=some _ from x)
 |ext φ=>obtain⟨_,⟨_,e⟩,_⟩:=x;exact Heap.lt_size e
theorem Paired.mapP{α β:Type}{F G:α->β->Prop}:∀ {l₁:List α}{l₂:List β},Paired F l₁ l₂->(∀ a b,F a b->G a b)->Paired G l₁ l₂
 | _,_,.nil,_=>.nil
 | _,_,.cons r t,f=>.cons (f _ _ r) (Paired.mapP t f)
theorem ObjOk.stay(x:ObjOk P w H h a o)(k:∀ b u,(b=a\/H b=some (.own a))->h.get? b=some u->h'.get? b=some u)
  (ho:∀ b,H b=some (.own a)->H' b=some (.own a)) (ht:∀ b xs,H b=some (.tup xs)->H' b=some (.tup xs)):ObjOk P w H' h' a o:=by
 induction o with
 |lst xs=>obtain⟨z,its,n,r,e⟩:=x;exact⟨z,its,n,r,k _ _ (.inl rfl) e⟩
 |tup xs=>obtain⟨z,its,r,ob,e,c⟩:=x;exact⟨z,its,r,ob,k _ _ (.inl rfl) e,c⟩
 |dK kvs=>obtain⟨z,y,vs,r,ob,es,ep,e,c⟩:=x;exact⟨z,y,vs,r,ob,es,ep,k _ _ (.inl rfl) e,c⟩
 |dT kvs =>
  obtain⟨z,y,xs,r,ob,es,ep,e,c⟩:=x
  exact⟨z,y,xs,Paired.mapP r fun p q z=>⟨z.1,ht _ _ z.2.1,z.2.2⟩,ob,es,ep,k _ _ (.inl rfl) e,c⟩
 |set S n=>obtain⟨ob,es,ep,t,e,c⟩:=x;exact⟨ob,es,ep,t,k _ _ (.inl rfl) e,c⟩
 |ins C dx fs =>
  obtain⟨d,z,ne,e,mA,⟨od,es,ep,e2,c⟩,r⟩:=x
  exact⟨ho _ d,z,ne,k _ _ (.inl rfl) e,mA,⟨od,es,ep,k _ _ (.inr d) e2,c⟩,r⟩
 |own y=>obtain⟨ob,e⟩:=x;exact⟨ob,k _ _ (.inl rfl) e⟩
 |xd fs=>obtain⟨mA,⟨od,es,ep,e,c⟩,r⟩:=x;exact⟨mA,⟨od,es,ep,k _ _ (.inl rfl) e,c⟩,r⟩
 |rng lo hi=>obtain⟨t,u,v,e⟩:=x;exact⟨t,u,v,k _ _ (.inl rfl) e⟩
 |frz ob u ih=>obtain⟨e,q⟩:=x;exact⟨k _ _ (.inl rfl) e,ih q⟩
 |tbl ps =>
  have e:h.get? a=some { cls:=.none,data:=.fields ps }:=x
  show h'.get? a=some { cls:=.none,data:=.fields ps }
  exact k a _ (.inl rfl) e
 |met f y =>
  have e:h.get? a=some (PySem.W.methodObj (.ref f) (.ref y)):=x
  show h'.get? a=some (PySem.W.methodObj (.ref f) (.ref y))
  exact k a _ (.inl rfl) e
 |ext φ=>obtain⟨p,⟨o,e⟩,st⟩:=x;exact⟨st _ _ p fun o q=>k _ _ (.inl rfl) q,⟨o,k _ _ (.inl rfl) e⟩,st⟩
theorem HOk.lt(x:HOk P w H h)(e:H a=some o):a<h.objs.size:=(x a o e).lt
theorem HOk.fresh(x:HOk P w H h)(e:h.objs.size<=a):H a=none:=by
 cases q:H a with
 |none=>rfl
 |some u=>exact absurd (Nat.lt_of_lt_of_le (x.lt q) e) (Nat.lt_irrefl _)
theorem HOk.kept(x:HOk P w H h)(k:∀ b u,h.get? b=some u->h'.get? b=some u):HOk P w H h':=fun a o e =>
 (x a o e).stay (fun b u _ q=>k b u q) (fun _ q=>q) fun _ _ q=>q
theorem HOk.laid(x:HOk P w H h)(k:∀ b u,h.get? b=some u->h'.get? b=some u)(hp:h.objs.size<=a)(new:ObjOk P w (upd H a o) h' a o):HOk P w (upd H a o) h':=fun b u e=>by
 have hn:=x.fresh hp
 by_cases hb:b=a
 ·subst hb;rw[upd_same]at e;cases e;exact new
 ·rw[upd_ne hb]at e
  exact(x b u e).stay (fun c v _ q=>k c v q) (fun c q=>by rw[upd_ne (ne_of_none q hn)];exact q) fun c xs q=>by rw[upd_ne (ne_of_none q hn)];exact q
end
noncomputable def Rd(H:Hp)(a:Addr)(u:HO):Prop:=H a=some u\/∃ o,H a=some (.frz o u)
theorem Rd.ok{P:Program}{w:World}{H:Hp}{h:Heap}{a:Addr}{u:HO}(r:Rd H a u)(x:HOk P w H h):ObjOk P w H h a u:=by
 rcases r with r |⟨o,r⟩
 ·exact x a u r
 ·obtain⟨_,q⟩:=x a _ r
  exact q
noncomputable def Mut:Option HO->Prop
 |some (.lst _)=>True
 |some (.dK _)=>True
 |some (.dT _)=>True
 |some (.set _ _)=>True
 |some (.ins _ _ _)=>True
 |some (.ext _)=>True
 | _=>False
section
variable{P:Program}{w:World}{H:Hp}{h h':Heap}{x e:Addr}{o':HO}
theorem HOk.write(ok:HOk P w H h)(mu:Mut (H x))(he:e=x\/H e=some (.own x))(k:∀ b u,b≠e->h.get? b=some u->h'.get? b=some u)(heo:∃ u,h'.get? e=some u)
  (new:ObjOk P w (upd H x o') h' x o'):HOk P w (upd H x o') h':=fun b u q=>by
 have nown:∀ c y,H c=some (.own y)->c≠x:=fun c y r z=>by subst z;rw[r]at mu;exact mu
 have ntup:∀ c xs,H c=some (.tup xs)->c≠x:=fun c xs r z=>by subst z;rw[r]at mu;exact mu
 by_cases hb:b=x
 ·subst hb;rw[upd_same]at q;cases q;exact new
 ·rw[upd_ne hb]at q
  by_cases hbe:b=e
  ·have q':H b=some (.own x):=by
    rcases he with z | z
    ·exact absurd (hbe.trans z) hb
    ·rw[hbe];exact z
   rw[q]at q';cases q'
   obtain⟨v,hv⟩:=heo
   exact⟨v,by rw[hbe];exact hv⟩
  ·refine(ok b u q).stay (fun c v hc r=>k c v ?_ r) (fun c r=>by rw[upd_ne (nown c b r)];exact r) fun c xs r=>by rw[upd_ne (ntup c xs r)];exact r
   rcases hc with rfl | hc
   ·exact hbe
   ·rintro rfl
    rcases he with z | z
    ·exact nown c b hc z
    ·rw[hc]at z;cases z;exact hb rfl
end
structure Un(fs ex:List Addr)(H H':Hp)(h h':Heap):Prop where
 keep:∀ b o,h.get? b=some o->H b=none->b∉fs->b∉ex->h'.get? b=some o
 slot:∀ b o,h.get? b=some o->H b=none->b∈fs->b∉ex->∃ sl,h'.get? b=some { o with slots:=sl }
 free:∀ b o,h.get? b=some o->H b=none->b∉ex->H' b=none
 there:∀ b o,h.get? b=some o->b∉ex->∃ o',h'.get? b=some o'
 tups:∀ b xs,H b=some (.tup xs)->H' b=some (.tup xs)
 frzs:∀ b o u,H b=some (.frz o u)->H' b=some (.frz o u)
 tbls:∀ b ps,H b=some (.tbl ps)->∃ more,H' b=some (.tbl (ps++more))
section
variable{fs fs' ex ex':List Addr}{H H1 H2:Hp}{h h1 h2 h':Heap}{a x e:Addr}{o:HO}
theorem Un.any(u:Un fs ex H H1 h h1){b:Addr}{ob:Obj}(q:h.get? b=some ob)(n:H b=none)(hx:b∉ex):∃ sl,h1.get? b=some { ob with slots:=sl }:=by
 by_cases hb:b∈fs
 ·exact u.slot b ob q n hb hx
 ·exact⟨ob.slots,u.keep b ob q n hb hx⟩
theorem Un.kept(k:∀ b u,h.get? b=some u->h'.get? b=some u):Un fs ex H H h h' :=
 ⟨fun b ob q _ _ _=>k b ob q,fun b ob q _ _ _=>⟨ob.slots,k b ob q⟩,fun _ _ _ n _=>n,fun b ob q _=>⟨ob,k b ob q⟩,fun _ _ q=>q,fun _ _ _ q=>q,fun _ ps q=>⟨#[],by rw[q];simp⟩⟩
theorem Un.refl:Un fs ex H H h h:=Un.kept fun _ _ q=>q
theorem Un.laid(k:∀ b u,h.get? b=some u->h'.get? b=some u)(hp:h.objs.size<=a)(hn:H a=none):Un fs ex H (upd H a o) h h' where
 keep:=fun b u q _ _ _=>k b u q
 slot:=fun b u q _ _ _=>⟨u.slots,k b u q⟩
 free:=fun b u q n _=>by rw[upd_ne (Nat.ne_of_lt (Nat.lt_of_lt_of_le (Heap.lt_size q) hp))];exact n
 there:=fun b u q _=>⟨u,k b u q⟩
 tups:=fun b xs q=>by rw[upd_ne (ne_of_none q hn)];exact q
 frzs:=fun b u xs q=>by rw[upd_ne (ne_of_none q hn)];exact q
 tbls:=fun b ps q=>⟨#[],by rw[upd_ne (ne_of_none q hn),q];simp⟩
theorem Un.write(mu:Mut (H x))(he:e=x\/H e=some (.own x))(k:∀ b u,b≠e->h.get? b=some u->h'.get? b=some u)(heo:∃ u,h'.get? e=some u):Un fs ex H (upd H x o) h h':=by
 have hx:∀ b,H b=none->b≠x:=fun b n z=>by subst z;rw[n]at mu;exact mu
 have hb:∀ b,H b=none->b≠e:=fun b n z=>by
  subst z
  rcases he with r | r
  ·exact hx b n r
  ·rw[n]at r;cases r
 have hm:∀ b u,H b=some u->¬ Mut (some u)->b≠x:=fun b u q nm z=>by subst z;rw[q]at mu;exact nm mu
 refine⟨fun b u q n _ _=>k b u (hb b n) q,fun b u q n _ _=>⟨u.slots,k b u (hb b n) q⟩,fun b u q n _=>by rw[upd_ne (hx b n)];exact n,fun b u q _=>?_,
  fun b xs q=>by rw[upd_ne (hm b _ q fun z=>z)];exact q,fun b u xs q=>by rw[upd_ne (hm b _ q fun z=>z)];exact q,fun b ps q=>⟨#[],by rw[upd_ne (hm b _ q fun z=>z),q];simp⟩⟩
 by_cases hbe:b=e
 ·subst hbe;exact heo
 ·exact⟨u,k b u hbe q⟩
end
noncomputable def trk(h:Heap)(H:Hp):List Addr:=(List.range h.objs.size).filter fun a=>(H a).isSome
noncomputable def hidT(h:Heap)(H:Hp):Heap:=PySem.W.hideAll h (trk h H)
theorem hidT_size(h:Heap)(H:Hp):(hidT h H).objs.size=h.objs.size:=PySem.W.hideAll_size _ _
theorem hidT_get{h:Heap}{H:Hp}{b:Addr}{o:Obj}(e:h.get? b=some o)(n:H b=none):(hidT h H).get? b=some o :=
 PySem.W.hideAll_get _ e fun hm=>by
  have q:(H b).isSome=true:=(List.mem_filter.mp hm).2
  rw[n]at q;simp at q
theorem of_hidT{h:Heap}{H:Hp}{b:Addr}{o:Obj}(e:(hidT h H).get? b=some o):h.get? b=some o/\H b=none:=by
 have e':h.get? b=some o:=PySem.W.of_hideAll (trk h H) e
 refine⟨e',?_⟩
 cases q:H b with
 |none=>rfl
 |some x =>
  have hm:b∈trk h H:=List.mem_filter.mpr ⟨List.mem_range.mpr (Heap.lt_size e'),by simp[q]⟩
  have z:(hidT h H).get? b=none:=PySem.W.hideAll_none (trk h H) hm
  rw[z]at e;cases e
open PySem PySem.Spec PyProof.Rows
structure Mod(K:PySem.W.Frag)(mg:Str->Option Value)(base:Heap):Prop where
 kin:K.In base
 glob:base.Ns mainGlobals mg
 blt:∃ mb,base.Ns builtinsNs mb/\∀ x:Str,x≠"__name__"->mb x=bootBuiltins x
 nolimit:base.NoLimit
structure Cx where
 prog:Program
 w:World
 K:PySem.W.Frag
 mg:Str->Option Value
 base:Heap
 A:Around
 N:List Str
 s₀:Shared
 H₀:Hp
 env:Env
 outer:List Env
 stack:List Env
 ex:List Addr
 fn:Str->Bool
 calm:Bool
 pn:List (Addr×Obj)
 xe:Value->Shared->Prop
noncomputable def frs(l:List Env):List Addr:=l.filterMap (·.frame)
noncomputable abbrev Cx.fs(X:Cx):List Addr:=frs X.outer
noncomputable def Vis(sc:Scope)(x:Str):Prop:=sc.names.lookup x=some .local\/sc.names.lookup x=some .cell\/sc.names.lookup x=some .free
noncomputable def Loc(sc:Scope)(x:Str):Prop:=sc.names.lookup x=some .local\/sc.names.lookup x=some .cell
noncomputable def Look(env:Env)(h:Heap)(m:Str->Option Value)(x:Str)(u:Value):Prop :=
 (env.kindOf x=some .local/\m x=some u)\/((env.kindOf x=some .cell\/env.kindOf x=some .free)/\∃ c,env.cells.lookup x=some c/\h.IsCell c (some u))
structure Cx.Ok(X:Cx):Prop where
 mod:Mod X.K X.mg X.base
 kind:X.env.scope.kind = .function
 glob:X.env.globals=mainGlobals
 blt:X.env.builtins=builtinsNs
 above:X.s₀.heap.objs.size<=X.env.locals
 inj:∀ x y c,X.env.cells.lookup x=some c->X.env.cells.lookup y=some c->x=y
 has:∀ x,(X.env.kindOf x=some .cell\/X.env.kindOf x=some .free)->∃ c,X.env.cells.lookup x=some c
 cab:∀ x c,X.fn x=true->X.env.cells.lookup x=some c->X.s₀.heap.objs.size<=c
 hd:X.calm=true->X.A.handled=none
 frames:X.A.frames=some X.stack
 stk:X.stack=X.outer\/(X.stack=X.env :: X.outer/\X.env.frame=some X.env.locals)
 exf:∀ b∈X.ex,b≠X.env.locals/\∀ x c,X.env.cells.lookup x=some c->c≠b
 bs:∀ b o,X.base.get? b=some o->X.s₀.heap.get? b=some o/\X.H₀ b=none
 bsz:X.base.objs.size<=X.s₀.heap.objs.size
 noex:∀ b o,X.base.get? b=some o->b∉X.ex
 exfs:∀ b∈X.ex,b∉X.fs
 funs:X.s₀.heap.FunFrames X.base X.outer
 frf:∀ b∈X.fs,X.H₀ b=none
structure Inv(X:Cx)(pins:List (Addr×Obj))(σ:List (Option V))(H:Hp)(s:Shared):Prop where
 ok:X.Ok
 os:s.os=X.s₀.os
 bare:AllBare s.gens
 base:Un X.fs X.ex X.H₀ H X.s₀.heap s.heap
 loc:∃ m,s.heap.Ns X.env.locals m/\∀ (i:Nat) (x:Str) (v:V),X.N[i]?=some x->σ[i]?=some (some v)->Vis X.env.scope x->∃ u,RelV v u/\Look X.env s.heap m x u
 cell:∀ x c,X.env.cells.lookup x=some c->∃ v,s.heap.IsCell c v
 free:H X.env.locals=none
 freeC:∀ x c,X.env.cells.lookup x=some c->H c=none
 pin:∀ p∈X.pn++pins,s.heap.get? p.1=some p.2/\H p.1=none/\p.1≠X.env.locals/\p.1∉X.fs/\∀ v,p.2.data≠.cell v
 hok:HOk X.prog X.w H s.heap
 len:σ.length=X.N.length
section
variable{X:Cx}{pins:List (Addr×Obj)}{σ:List (Option V)}{H H':Hp}{s:Shared}{h':Heap}
theorem Cx.Ok.nofr(ok:X.Ok){b:Addr}{o:Obj}(e:X.base.get? b=some o):b∉X.fs:=fun hb=>by
 have:=(ok.funs.mem hb).1
 rw[e]at this;cases this
theorem Inv.bs(I:Inv X pins σ H s):∀ b o,X.base.get? b=some o->s.heap.get? b=some o/\H b=none:=fun b o e =>
 ⟨I.base.keep b o (I.ok.bs b o e).1 (I.ok.bs b o e).2 (I.ok.nofr e) (I.ok.noex b o e),I.base.free b o (I.ok.bs b o e).1 (I.ok.bs b o e).2 (I.ok.noex b o e)⟩
theorem Inv.bk(I:Inv X pins σ H s):∀ b o,X.base.get? b=some o->s.heap.get? b=some o:=fun b o e=>(I.bs b o e).1
theorem Inv.mod(I:Inv X pins σ H s):Mod X.K X.mg X.base:=I.ok.mod
theorem Inv.kIn(I:Inv X pins σ H s):X.K.In s.heap:=I.ok.mod.kin.keeps I.bk
theorem Inv.lt(I:Inv X pins σ H s):X.env.locals<s.heap.objs.size:=let ⟨_,hn,_⟩:=I.loc;hn.lt
theorem Inv.sz(I:Inv X pins σ H s):X.s₀.heap.objs.size<=s.heap.objs.size:=Nat.le_trans I.ok.above (Nat.le_of_lt I.lt)
theorem Inv.nofs(I:Inv X pins σ H s){a:Addr}(h:s.heap.objs.size<=a):a∉X.fs:=fun hb=>by
 obtain⟨_,o,ho,_⟩:=I.ok.funs.mem hb
 exact absurd (Nat.lt_of_lt_of_le (Heap.lt_size ho) (Nat.le_trans I.sz h)) (Nat.lt_irrefl _)
theorem Inv.cne(I:Inv X pins σ H s):∀ x c,X.env.cells.lookup x=some c->c≠X.env.locals:=fun x c e z=>by
 obtain⟨v,o,ho,hd⟩:=I.cell x c e
 obtain⟨m,⟨o',es,ep,ho',hd',_⟩,_⟩:=I.loc
 rw[z,ho']at ho;cases ho;rw[hd']at hd;cases hd
theorem Inv.funs(I:Inv X pins σ H s):s.heap.FunFrames X.base X.outer:=by
 have all:∀ (l:List Env),(∀ b∈frs l,b∈X.fs)->X.s₀.heap.FunFrames X.base l->s.heap.FunFrames X.base l:=by
  intro l
  induction l with
  |nil=>intro _ _;trivial
  |cons env r ih =>
   intro hs hl
   obtain⟨hk,⟨L,o,hf,hn,ho,hd⟩,hr⟩:=hl
   have hL:L∈X.fs:=hs L (by unfold frs;rw[List.filterMap_cons,hf];exact List.mem_cons_self)
   obtain⟨sl,e⟩:=I.base.slot L o ho (I.ok.frf L hL) hL fun z=>I.ok.exfs L z hL
   exact⟨hk,⟨L,_,hf,hn,e,hd⟩,ih (fun b hb=>hs b (by unfold frs;rw[List.filterMap_cons,hf];exact List.mem_cons_of_mem _ hb)) hr⟩
 exact all X.outer (fun _ hb=>hb) I.ok.funs
theorem Inv.stack(I:Inv X pins σ H s):s.heap.FunFrames X.base X.stack:=by
 rcases I.ok.stk with e |⟨e,hf⟩
 ·rw[e];exact I.funs
 ·rw[e]
  obtain⟨m,hn,_⟩:=I.loc
  refine .cons (by rw[I.ok.kind];decide) hf hn ?_ I.funs
  exact Heap.get?_none_of_le (Nat.le_trans I.ok.bsz I.ok.above)
theorem Inv.stkSub(I:Inv X pins σ H s):∀ b∈frs X.stack,b∈X.env.locals :: X.fs:=fun b hb=>by
 rcases I.ok.stk with e |⟨e,hf⟩
 ·rw[e]at hb;exact List.mem_cons_of_mem _ hb
 ·rw[e]at hb
  unfold frs at hb
  rw[List.filterMap_cons,hf]at hb
  exact hb
theorem Inv.stkFree(I:Inv X pins σ H s):∀ b∈frs X.stack,H b=none:=fun b hb=>by
 rcases List.mem_cons.mp (I.stkSub b hb)with e | hb
 ·rw[e];exact I.free
 ·obtain⟨_,o,ho,_⟩:=I.ok.funs.mem hb
  exact I.base.free b o ho (I.ok.frf b hb) fun z=>I.ok.exfs b z hb
theorem Inv.step{g':Array GenState}{t':Nat}{d':Drawn}{ch:List Addr}(I:Inv X pins σ H s)
  (hch:∀ b∈ch,(b∈X.ex\/X.s₀.heap.objs.size<=b)/\b≠X.env.locals/\(∀ x c,X.env.cells.lookup x=some c->c≠b)/\∀ p∈X.pn++pins,p.1≠b)
  (keep:∀ b o,b≠X.env.locals->b∉X.fs->b∉ch->s.heap.get? b=some o->H b=none->h'.get? b=some o)
  (slot:∀ b o,b≠X.env.locals->b∈X.fs->b∉ch->s.heap.get? b=some o->H b=none->∃ sl,h'.get? b=some { o with slots:=sl }) (free:∀ b o,b∉ch->s.heap.get? b=some o->H b=none->H' b=none)
  (there:∀ b o,b∉ch->s.heap.get? b=some o->∃ o',h'.get? b=some o')
  (tups:∀ b xs,H b=some (.tup xs)->H' b=some (.tup xs)) (frzs:∀ b o u,H b=some (.frz o u)->H' b=some (.frz o u)) (tbls:∀ b ps,H b=some (.tbl ps)->∃ more,H' b=some (.tbl (ps++more)))
  (ns:∀ m,s.heap.Ns X.env.locals m->h'.Ns X.env.locals m) (hok:HOk X.prog X.w H' h') (hg:AllBare g') :
  Inv X pins σ H' { s with heap:=h',gens:=g',drawn:=d',toks:=t' }:=by
 have neL:∀ b o,X.s₀.heap.get? b=some o->b≠X.env.locals:=fun b o e=>Nat.ne_of_lt (Nat.lt_of_lt_of_le (Heap.lt_size e) I.ok.above)
 have neC:∀ b o,X.s₀.heap.get? b=some o->b∉X.ex->b∉ch:=fun b o e hx hb=>by
  rcases(hch b hb).1 with z | z
  ·exact hx z
  ·exact absurd (Nat.lt_of_lt_of_le (Heap.lt_size e) z) (Nat.lt_irrefl _)
 have cellK:∀ x c,X.env.cells.lookup x=some c->∀ v,s.heap.IsCell c v->h'.IsCell c v:=fun x c e v ⟨o,ho,hd⟩=>by
  have nch:c∉ch:=fun z=>(hch c z).2.2.1 x c e rfl
  by_cases hc:c∈X.fs
  ·obtain⟨sl,q⟩:=slot c o (I.cne x c e) hc nch ho (I.freeC x c e)
   exact⟨_,q,hd⟩
  ·exact⟨o,keep c o (I.cne x c e) hc nch ho (I.freeC x c e),hd⟩
 refine⟨I.ok,I.os,hg,⟨fun b o e n hb hx=>?_,fun b o e n hb hx=>?_,fun b o e n hx=>?_,fun b o e hx=>?_,fun b xs e=>tups b xs (I.base.tups b xs e),fun b o xs e=>frzs b o xs (I.base.frzs b o xs e),fun b ps e=>?_⟩,?_,fun x c e=>?_,?_,fun x c e=>?_,fun p hp=>?_,hok,I.len⟩
 ·exact keep b o (neL b o e) hb (neC b o e hx) (I.base.keep b o e n hb hx) (I.base.free b o e n hx)
 ·obtain⟨sl,e1⟩:=I.base.slot b o e n hb hx
  obtain⟨sl',e2⟩:=slot b _ (neL b o e) hb (neC b o e hx) e1 (I.base.free b o e n hx)
  exact⟨sl',e2⟩
 ·obtain⟨o',e1⟩:=I.base.there b o e hx
  exact free b o' (neC b o e hx) e1 (I.base.free b o e n hx)
 ·obtain⟨o',e1⟩:=I.base.there b o e hx
  exact there b o' (neC b o e hx) e1
 ·obtain⟨m1,e1⟩:=I.base.tbls b ps e
  obtain⟨m2,e2⟩:=tbls b _ e1
  exact⟨m1++m2,by rw[e2,Array.append_assoc]⟩
 ·obtain⟨m,hn,hl⟩:=I.loc
  refine⟨m,ns m hn,fun i x v e1 e2 e3=>?_⟩
  obtain⟨u,r,l⟩:=hl i x v e1 e2 e3
  refine⟨u,r,?_⟩
  rcases l with l |⟨k,c,e,z⟩
  ·exact .inl l
  ·exact .inr ⟨k,c,e,cellK x c e _ z⟩
 ·obtain⟨v,z⟩:=I.cell x c e
  exact⟨v,cellK x c e v z⟩
 ·obtain⟨m,⟨o,_,_,ho,_⟩,_⟩:=I.loc
  exact free _ o (fun z=>(hch _ z).2.1 rfl) ho I.free
 ·obtain⟨v,o,ho,hd⟩:=I.cell x c e
  exact free c o (fun z=>(hch c z).2.2.1 x c e rfl) ho (I.freeC x c e)
 ·obtain⟨e,n,ne,nf,d⟩:=I.pin p hp
  have nch:p.1∉ch:=fun z=>(hch p.1 z).2.2.2 p hp rfl
  exact⟨keep p.1 p.2 ne nf nch e n,free p.1 p.2 nch e n,ne,nf,d⟩
theorem Inv.un{t':Nat}(I:Inv X pins σ H s)(u:Un X.fs [] H H' s.heap h')(hok:HOk X.prog X.w H' h'):Inv X pins σ H' { s with heap:=h',toks:=t' }:=by
 obtain⟨m,⟨o,es,ep,ho,r⟩,_⟩:=id I.loc
 obtain⟨sl,hL⟩:=u.any ho I.free (by simp)
 exact I.step (g':=s.gens) (d':=s.drawn) (ch:=[]) (fun _ z=>nomatch z) (fun b o _ hb _ e n=>u.keep b o e n hb (by simp)) (fun b o _ hb _ e n=>u.slot b o e n hb (by simp)) (fun b o _ e n=>u.free b o e n (by simp)) (fun b o _ e=>u.there b o e (by simp)) u.tups u.frzs u.tbls (fun m' hm=>by
  obtain⟨o',es',ep',ho',r'⟩:=hm
  rw[ho]at ho';cases ho'
  exact⟨_,es',ep',hL,r'⟩) hok I.bare
theorem Inv.call{g':Array GenState}{t':Nat}{d':Drawn}{ch:List Addr}(I:Inv X pins σ H s)(u:Un (frs X.stack) ch H H' s.heap h')(hok:HOk X.prog X.w H' h')(hg:AllBare g')
  (hch:∀ b∈ch,(b∈X.ex\/X.s₀.heap.objs.size<=b)/\b≠X.env.locals/\(∀ x c,X.env.cells.lookup x=some c->c≠b)/\∀ p∈X.pn++pins,p.1≠b) :
  Inv X pins σ H' { s with heap:=h',gens:=g',drawn:=d',toks:=t' }:=by
 obtain⟨m,⟨o,es,ep,ho,r⟩,_⟩:=id I.loc
 obtain⟨sl,hL⟩:=u.any ho I.free fun z=>(hch _ z).2.1 rfl
 exact I.step (ch:=ch) hch (fun b o hL hb hc e n=>u.keep b o e n (fun z=>(List.mem_cons.mp (I.stkSub b z)).elim hL hb) hc) (fun b o _ _ hc e n=>u.any e n hc) (fun b o hc e n=>u.free b o e n hc) (fun b o hc e=>u.there b o e hc) u.tups u.frzs u.tbls (fun m' hm=>by
  obtain⟨o',es',ep',ho',r'⟩:=hm
  rw[ho]at ho';cases ho'
  exact⟨_,es',ep',hL,r'⟩) hok hg
theorem Inv.turned{t':Nat}{it:Addr}(I:Inv X pins σ H s)(k:∀ b o,b≠it->s.heap.get? b=some o->h'.get? b=some o)(hn:H it=none)(hL:it≠X.env.locals)
  (h1:it∈X.ex\/X.s₀.heap.objs.size<=it) (h2:∀ x c,X.env.cells.lookup x=some c->c≠it) (h3:∀ p∈X.pn++pins,p.1≠it):Inv X pins σ H { s with heap:=h',toks:=t' }:=by
 have nit:∀ b u,H b=some u->b≠it:=fun b u e z=>by rw[z,hn]at e;cases e
 refine I.step (g':=s.gens) (d':=s.drawn) (ch:=[it]) (fun b hb=>?_) (fun b o _ _ hc e _=>k b o (fun z=>hc (by simp[z])) e) (fun b o _ _ hc e _=>⟨o.slots,k b o (fun z=>hc (by simp[z])) e⟩) (fun _ _ _ _ n=>n)
  (fun b o hc e=>⟨o,k b o (fun z=>hc (by simp[z])) e⟩) (fun _ _ e=>e) (fun _ _ _ e=>e) (fun b ps e=>⟨#[],by rw[e];simp⟩) (fun m hm=>?_) (fun b u e=>?_) I.bare
 ·have e:b=it:=by simpa using hb
  subst e
  exact⟨h1,hL,h2,h3⟩
 ·obtain⟨o,es,ep,ho,r⟩:=hm
  exact⟨o,es,ep,k _ o (Ne.symm hL) ho,r⟩
 ·refine(I.hok b u e).stay (fun c v hc q=>k c v ?_ q) (fun _ q=>q) fun _ _ q=>q
  rcases hc with z | z
  ·rw[z];exact nit b u e
  ·exact nit c _ z
theorem Inv.tok(I:Inv X pins σ H s)(t:Nat):Inv X pins σ H { s with toks:=t }:=I.un (h':=s.heap) (t':=t) Un.refl I.hok
theorem Inv.kept{t':Nat}(I:Inv X pins σ H s)(k:∀ b u,s.heap.get? b=some u->h'.get? b=some u):Inv X pins σ H { s with heap:=h',toks:=t' }:=I.un (Un.kept k) (I.hok.kept k)
theorem Inv.laid{a:Addr}{o:HO}{t':Nat}(I:Inv X pins σ H s)(k:∀ b u,s.heap.get? b=some u->h'.get? b=some u)(hp:s.heap.objs.size<=a)(new:ObjOk X.prog X.w (upd H a o) h' a o) :
  Inv X pins σ (upd H a o) { s with heap:=h',toks:=t' }:=I.un (Un.laid k hp (I.hok.fresh hp)) (I.hok.laid k hp new)
theorem Inv.write{x e:Addr}{o:HO}{t':Nat}(I:Inv X pins σ H s)(mu:Mut (H x))(he:e=x\/H e=some (.own x))(k:∀ b u,b≠e->s.heap.get? b=some u->h'.get? b=some u)(heo:∃ u,h'.get? e=some u)
  (new:ObjOk X.prog X.w (upd H x o) h' x o):Inv X pins σ (upd H x o) { s with heap:=h',toks:=t' }:=I.un (Un.write mu he k heo) (I.hok.write mu he k heo new)
theorem Inv.weak{σ':List (Option V)}(I:Inv X pins σ H s)(hl:σ'.length=σ.length)(w:∀ (i:Nat) v,σ'[i]?=some (some v)->σ[i]?=some (some v)):Inv X pins σ' H s :=
 ⟨I.ok,I.os,I.bare,I.base,let ⟨m,hn,hl'⟩:=I.loc;⟨m,hn,fun i x v e1 e2 e3=>hl' i x v e1 (w i v e2) e3⟩,I.cell,I.free,I.freeC,I.pin,I.hok,hl.trans I.len⟩
theorem Inv.pins_of{pins':List (Addr×Obj)}(I:Inv X pins σ H s)(h:∀ p∈pins',s.heap.get? p.1=some p.2/\H p.1=none/\p.1≠X.env.locals/\p.1∉X.fs/\∀ v,p.2.data≠.cell v):Inv X pins' σ H s :=
 ⟨I.ok,I.os,I.bare,I.base,I.loc,I.cell,I.free,I.freeC,fun p hp=>(List.mem_append.mp hp).elim (fun z=>I.pin p (List.mem_append_left _ z)) (h p),I.hok,I.len⟩
theorem nodup_ix{N:List Str}(hN:N.Nodup){i j:Nat}{x:Str}(a:N[i]?=some x)(b:N[j]?=some x):i=j:=by
 obtain⟨h1,e1⟩:=List.getElem?_eq_some_iff.mp a
 obtain⟨h2,e2⟩:=List.getElem?_eq_some_iff.mp b
 exact(List.getElem_inj hN).mp (e1.trans e2.symm)
theorem store_ok2{M:Model}{A:Around}{E:Value->Shared->Prop}{i:Nat}{x:Str}{v:V}{u:Value}{Q:Unit->Shared->Prop}(I:Inv X pins σ H s)(hN:X.N.Nodup)(hi:X.N[i]?=some x)(hx:Loc X.env.scope x)(r:RelV v u)
  (h:∀ s',Inv X pins (σ.set i (some v)) H s'->(∃ a,Heap.SameBut a s.heap s'.heap/\(a=X.env.locals\/X.env.cells.lookup x=some a))->Q () s') (hf:X.fn x=true\/X.env.scope.names.lookup x=some .local:=by first | exact .inl rfl | exact .inr rfl | assumption):wpAny M A (storeName X.env x u) Q E s:=by
 obtain⟨m,hn,hl⟩:=id I.loc
 have hcls:(X.env.scope.kind == .class ||(X.env.scope.kind == .module && X.env.locals != X.env.globals))=false:=by rw[I.ok.kind];rfl
 have hiσ:i<σ.length:=by rw[I.len];exact(List.getElem?_eq_some_iff.mp hi).1
 have cne:=I.cne
 have tracked:∀ {a:Addr}{h':Heap},(∃ o,s.heap.get? a=some o/\H a=none)->Heap.SameBut a s.heap h'->HOk X.prog X.w H h':=fun {a h'} ha hs b ob e=>by
  obtain⟨_,_,hfree⟩:=ha
  refine(I.hok b ob e).stay (fun c w' hc q=>(hs.2 c ?_).trans q) (fun _ q=>q) fun _ _ q=>q
  rintro rfl
  rcases hc with rfl | hc
  ·rw[hfree]at e;cases e
  ·rw[hfree]at hc;cases hc
 rcases hx with hk | hk
 ·refine wpAny_storeName_local hk hn (fun h' hn' hs=>?_) hcls
  obtain⟨oL,_,_,hoL,_⟩:=id hn
  refine h _ ⟨I.ok,I.os,I.bare,⟨fun b o e n hb hx=>?_,fun b o e n hb hx=>?_,I.base.free,fun b o e hx=>?_,I.base.tups,I.base.frzs,I.base.tbls⟩,⟨_,hn',fun j y v' e1 e2 e3=>?_⟩,fun y c e=>?_,I.free,I.freeC,fun p hp=>?_,tracked ⟨oL,hoL,I.free⟩ hs,by simpa using I.len⟩ ⟨_,hs,.inl rfl⟩
  ·exact(hs.2 b (Nat.ne_of_lt (Nat.lt_of_lt_of_le (Heap.lt_size e) I.ok.above))).trans (I.base.keep b o e n hb hx)
  ·obtain⟨sl,e1⟩:=I.base.slot b o e n hb hx
   exact⟨sl,(hs.2 b (Nat.ne_of_lt (Nat.lt_of_lt_of_le (Heap.lt_size e) I.ok.above))).trans e1⟩
  ·obtain⟨o',e1⟩:=I.base.there b o e hx
   exact⟨o',(hs.2 b (Nat.ne_of_lt (Nat.lt_of_lt_of_le (Heap.lt_size e) I.ok.above))).trans e1⟩
  ·by_cases hj:j=i
   ·subst hj
    rw[hi]at e1;cases e1
    rw[List.getElem?_set_self hiσ]at e2
    cases e2
    exact⟨u,r,.inl ⟨hk,by simp⟩⟩
   ·rw[List.getElem?_set_ne (Ne.symm hj)]at e2
    obtain⟨u',r',q⟩:=hl j y v' e1 e2 e3
    refine⟨u',r',?_⟩
    rcases q with⟨k,e⟩ |⟨k,c,e,z⟩
    ·refine .inl ⟨k,?_⟩
     have:y≠x:=fun e=>hj (nodup_ix hN e1 (e▸hi))
     simp[this,e]
    ·exact .inr ⟨k,c,e,z.sameBut hs (cne y c e)⟩
  ·obtain⟨w',z⟩:=I.cell y c e
   exact⟨w',z.sameBut hs (cne y c e)⟩
  ·obtain⟨e,n,ne,nf,d⟩:=I.pin p hp
   exact⟨(hs.2 p.1 ne).trans e,n,ne,nf,d⟩
 ·have hfn:X.fn x=true:=by
   rcases hf with z | z
   ·exact z
   ·rw[z]at hk;cases hk
  obtain⟨c,hc⟩:=I.ok.has x (.inl hk)
  obtain⟨w',z⟩:=I.cell x c hc
  refine wpAny_storeName_cell I.ok.kind hk hc z (fun h' hc' hs=>?_)
  obtain⟨oc,hoc,hocd⟩:=id z
  refine h { s with heap:=h' } ⟨I.ok,I.os,I.bare,⟨fun b o e n hb hx=>?_,fun b o e n hb hx=>?_,I.base.free,fun b o e hx=>?_,I.base.tups,I.base.frzs,I.base.tbls⟩,⟨m,hn.sameBut hs (Ne.symm (cne x c hc)),fun j y v' e1 e2 e3=>?_⟩,fun y c' e=>?_,I.free,I.freeC,fun p hp=>?_,tracked ⟨oc,hoc,I.freeC x c hc⟩ hs,by simpa using I.len⟩ ⟨c,hs,.inr hc⟩
  ·exact(hs.2 b (Nat.ne_of_lt (Nat.lt_of_lt_of_le (Heap.lt_size e) (I.ok.cab x c hfn hc)))).trans (I.base.keep b o e n hb hx)
  ·obtain⟨sl,e1⟩:=I.base.slot b o e n hb hx
   exact⟨sl,(hs.2 b (Nat.ne_of_lt (Nat.lt_of_lt_of_le (Heap.lt_size e) (I.ok.cab x c hfn hc)))).trans e1⟩
  ·obtain⟨o',e1⟩:=I.base.there b o e hx
   exact⟨o',(hs.2 b (Nat.ne_of_lt (Nat.lt_of_lt_of_le (Heap.lt_size e) (I.ok.cab x c hfn hc)))).trans e1⟩
  ·by_cases hj:j=i
   ·subst hj
    rw[hi]at e1;cases e1
    rw[List.getElem?_set_self hiσ]at e2
    cases e2
    exact⟨u,r,.inr ⟨.inl hk,c,hc,hc'⟩⟩
   ·rw[List.getElem?_set_ne (Ne.symm hj)]at e2
    obtain⟨u',r',q⟩:=hl j y v' e1 e2 e3
    refine⟨u',r',?_⟩
    rcases q with q |⟨k,c',e,z'⟩
    ·exact .inl q
    ·refine .inr ⟨k,c',e,z'.sameBut hs ?_⟩
     rintro rfl
     exact hj (nodup_ix hN e1 (I.ok.inj _ _ _ e hc▸hi))
  ·by_cases hcc:c'=c
   ·subst hcc;exact⟨_,hc'⟩
   ·obtain⟨w2,z2⟩:=I.cell y c' e
    exact⟨w2,z2.sameBut hs hcc⟩
  ·obtain⟨e,n,ne,nf,d⟩:=I.pin p hp
   refine⟨(hs.2 p.1 ?_).trans e,n,ne,nf,d⟩
   intro q
   rw[q,hoc]at e
   have q':oc=p.2:=Option.some.inj e
   exact d w' (by rw[<- q'];exact hocd)
theorem store_ok{M:Model}{A:Around}{E:Value->Shared->Prop}{i:Nat}{x:Str}{v:V}{u:Value}{Q:Unit->Shared->Prop}(I:Inv X pins σ H s)(hN:X.N.Nodup)(hi:X.N[i]?=some x)(hx:Loc X.env.scope x)(r:RelV v u)
  (h:∀ s',Inv X pins (σ.set i (some v)) H s'->Q () s') (hf:X.fn x=true\/X.env.scope.names.lookup x=some .local:=by first | exact .inl rfl | exact .inr rfl | assumption):wpAny M A (storeName X.env x u) Q E s :=
 store_ok2 I hN hi hx r (fun s' I' _=>h s' I') hf
theorem Inv.call'{s':Shared}{ch:List Addr}(I:Inv X pins σ H s)(ho:s'.os=s.os)(u:Un (frs X.stack) ch H H' s.heap s'.heap)(hok:HOk X.prog X.w H' s'.heap)(hg:AllBare s'.gens)
  (hch:∀ b∈ch,(b∈X.ex\/X.s₀.heap.objs.size<=b)/\b≠X.env.locals/\(∀ x c,X.env.cells.lookup x=some c->c≠b)/\∀ p∈X.pn++pins,p.1≠b):Inv X pins σ H' s':=by
 obtain⟨h',g',d',t',o'⟩:=s'
 have e:o'=s.os:=ho
 subst e
 exact I.call (g':=g') (t':=t') (d':=d') u hok hg hch
end
noncomputable abbrev XK:=Value->Option Addr->Hp->Prop
noncomputable abbrev St:=List (Option V)
noncomputable abbrev VK:=V->Hp->Prop
noncomputable abbrev TE:=St->Hp->VK->Prop
noncomputable abbrev TT:=St->Hp->(Bool->Hp->Prop)->Prop
noncomputable abbrev TA:=St->Hp->(List V->Hp->Prop)->Prop
structure Ends where
 nx:St->Hp->Prop
 rt:VK
 bk:St->Hp->Prop:=fun _ _=>False
 ct:St->Hp->Prop:=fun _ _=>False
noncomputable abbrev TS:=Ends->St->Hp->Prop
noncomputable def EP(X:Cx)(pins:List (Addr×Obj))(σ:St)(Q:VK)(u:Value)(s':Shared):Prop:=∃ v H',Inv X pins σ H' s'/\RelV v u/\Q v H'
noncomputable def TP(X:Cx)(pins:List (Addr×Obj))(σ:St)(Q:Bool->Hp->Prop)(b:Bool)(s':Shared):Prop:=∃ H',Inv X pins σ H' s'/\Q b H'
noncomputable def AP(X:Cx)(pins:List (Addr×Obj))(σ:St)(Q:List V->Hp->Prop)(us:List Value)(s':Shared):Prop:=∃ vs H',Inv X pins σ H' s'/\Vals vs us/\Q vs H'
noncomputable def SP(X:Cx)(pins:List (Addr×Obj))(D:Ends)(f:Flow)(s':Shared):Prop :=
 match f with
 | .next=>∃ σ' H',Inv X pins σ' H' s'/\D.nx σ' H'
 | .brk=>∃ σ' H',Inv X pins σ' H' s'/\D.bk σ' H'
 | .cont=>∃ σ' H',Inv X pins σ' H' s'/\D.ct σ' H'
 | .ret u=>∃ v σ' H',Inv X pins σ' H' s'/\RelV v u/\D.rt v H'
noncomputable def PE(X:Cx)(e:Expr)(t:TE):Prop :=
 ∀ (pins:List (Addr×Obj)) (s:Shared) (σ:St) (H:Hp) (Q:VK),Inv X pins σ H s->t σ H Q->wpAny (model X.prog X.w) X.A (eval e X.env) (EP X pins σ Q) X.xe s
noncomputable def PT(X:Cx)(e:Expr)(t:TT):Prop :=
 ∀ (pins:List (Addr×Obj)) (s:Shared) (σ:St) (H:Hp) (Q:Bool->Hp->Prop),Inv X pins σ H s->t σ H Q->wpAny (model X.prog X.w) X.A (isTrue e X.env (eval e X.env)) (TP X pins σ Q) X.xe s
noncomputable def PW(X:Cx)(e:Expr)(t:TT):Prop :=
 ∀ (whole:Sem Value) (pins:List (Addr×Obj)) (s:Shared) (σ:St) (H:Hp) (Q:Bool->Hp->Prop),Inv X pins σ H s->t σ H Q->wpAny (model X.prog X.w) X.A (isTrue e X.env whole) (TP X pins σ Q) X.xe s
theorem PW.pt{X:Cx}{e:Expr}{t:TT}(h:PW X e t):PT X e t:=h _
noncomputable def PA(X:Cx)(es:List Expr)(t:TA):Prop :=
 ∀ (pos:Pos) (pins:List (Addr×Obj)) (s:Shared) (σ:St) (H:Hp) (Q:List V->Hp->Prop),Inv X pins σ H s->t σ H Q->wpAny (model X.prog X.w) X.A (spliced (backTo pos (starEach es X.env))) (AP X pins σ Q) X.xe s
noncomputable def PS(X:Cx)(st:Stmt)(t:TS):Prop :=
 ∀ (pins:List (Addr×Obj)) (s:Shared) (σ:St) (H:Hp) (D:Ends),Inv X pins σ H s->t D σ H->wpAny (model X.prog X.w) X.A (exec st X.env) (SP X pins D) X.xe s
noncomputable def PSs(X:Cx)(st:List Stmt)(t:TS):Prop :=
 ∀ (pins:List (Addr×Obj)) (s:Shared) (σ:St) (H:Hp) (D:Ends),Inv X pins σ H s->t D σ H->wpAny (model X.prog X.w) X.A (execs st X.env) (SP X pins D) X.xe s
theorem thn{α:Type}{t:Sem α}{Q Q':α->Shared->Prop}{M:Model}{A:Around}{E:Value->Shared->Prop}{s:Shared}(h:wpAny M A t Q E s)(hQ:∀ a s,Q a s->Q' a s):wpAny M A t Q' E s:=wpAny_mono h hQ fun _ _ x=>x
open PySem PySem.Spec PyProof.Rows
section
variable{X:Cx}
noncomputable def tVar(i:Nat):TE:=fun σ H Q=>∃ v,σ[i]?=some (some v)/\Q v H
noncomputable def tC(v:V):TE:=fun _ H Q=>Q v H
theorem pe_var{i:Nat}{x:Str}{pos:Pos}(hN:X.N[i]?=some x)(hv:Vis X.env.scope x)(hd:(x ==("__debug__":Str))=false:=by decide)(hcd:(x ==("__classdict__":Str))=false:=by decide):PE X (.Name x pos) (tVar i):=by
 intro pins s σ H Q I h
 obtain⟨v,e,h⟩:=h
 obtain⟨m,hn,hl⟩:=I.loc
 obtain⟨u,r,l⟩:=hl i x v hN e hv
 have fin:EP X pins σ Q u s:=⟨v,H,I,r,h⟩
 rcases l with⟨hk,hm⟩ |⟨hk,c,hc,hcell⟩
 ·exact wpAny_Name (wpAny_loadName_local I.ok.kind hk hn hm fin) hd
 ·rcases hk with hk | hk
  ·exact wpAny_Name (wpAny_loadName_cell I.ok.kind hk hc hcell fin) hd
  ·exact wpAny_Name (wpAny_loadName_free I.ok.kind hk hc hcell fin hcd) hd
theorem pe_int{i j pos}:PE X (.Constant (.int i) j pos) (tC (.int i)):=fun _ _ _ H _ I h=>wpAny_Constant_int ⟨.int i,H,I.tok _,⟨_,rfl⟩,h⟩
theorem pe_bl{b j pos}:PE X (.Constant (.bool b) j pos) (tC (.bl b)):=fun _ _ _ H _ I h=>Constant_bool ⟨.bl b,H,I,rfl,h⟩
theorem pe_non{j pos}:PE X (.Constant .none j pos) (tC .non):=fun _ _ _ H _ I h=>Constant_none ⟨.non,H,I,rfl,h⟩
noncomputable def Gl(X:Cx)(x:Str):Prop:=X.env.kindOf x=some .globalImplicit
theorem ld_glob{E:Value->Shared->Prop}{pins:List (Addr×Obj)}{s:Shared}{σ:St}{H:Hp}{x:Str}{u:Value}{pos:Pos}{Q:Value->Shared->Prop}(I:Inv X pins σ H s)(hg:Gl X x)(hm:X.mg x=some u)(h:Q u s)
  (hd:(x ==("__debug__":Str))=false:=by decide):wpAny (model X.prog X.w) X.A (eval (.Name x pos) X.env) Q E s :=
 Calls.Name_function_global I.ok.kind hg (Calls.loadGlobal_global (by rw[I.ok.glob];exact I.mod.glob.keeps I.bk) hm h) hd
theorem ld_blt{E:Value->Shared->Prop}{pins:List (Addr×Obj)}{s:Shared}{σ:St}{H:Hp}{x:Str}{u:Value}{pos:Pos}{Q:Value->Shared->Prop}(I:Inv X pins σ H s)(hg:Gl X x)(hm:X.mg x=none)(hv:bootBuiltins x=some u)(h:Q u s)
  (hn:x≠"__name__":=by decide) (hd:(x ==("__debug__":Str))=false:=by decide):wpAny (model X.prog X.w) X.A (eval (.Name x pos) X.env) Q E s:=by
 obtain⟨mb,h1,h2⟩:=I.mod.blt
 exact Calls.Name_function_global I.ok.kind hg (Calls.loadGlobal_builtin (by rw[I.ok.glob];exact I.mod.glob.keeps I.bk) hm (by rw[I.ok.blt];exact h1.keeps I.bk) ((h2 x hn).trans hv) h) hd
theorem pe_bltn{x:Str}{v:V}{u:Value}{pos:Pos}(hg:Gl X x)(hm:X.mg x=none)(hv:bootBuiltins x=some u)(r:RelV v u)(hn:x≠"__name__":=by decide)(hd:(x ==("__debug__":Str))=false:=by decide):PE X (.Name x pos) (tC v) :=
 fun _ _ _ H _ I h=>ld_blt I hg hm hv ⟨v,H,I,r,h⟩ hn hd
variable{a b:Expr}{ta tb:TE}{pos:Pos}
noncomputable def PC(X:Cx)(op:CmpOp)(a b:Expr)(t:TE):Prop :=
 ∀ (pins:List (Addr×Obj)) (s:Shared) (σ:St) (H:Hp) (Q:VK),Inv X pins σ H s->t σ H Q ->
  wpAny (model X.prog X.w) X.A (eval a X.env) (fun v s₁=>wpAny (model X.prog X.w) X.A (eval b X.env) (fun u s₂=>wpAny (model X.prog X.w) X.A (compareOp op v u) (EP X pins σ Q) X.xe s₂) X.xe s₁) X.xe s
theorem nobehind(b:Expr){op:CmpOp}(h:op≠.In)(h2:op≠.NotIn):behindInMarks op b=false:=by
 have e1:(op == CmpOp.In)=false:=by cases op <;> first | rfl | exact absurd rfl h
 have e2:(op == CmpOp.NotIn)=false:=by cases op <;> first | rfl | exact absurd rfl h2
 cases b <;> simp[behindInMarks,e1,e2]
noncomputable def tNotN(ta:TE):TE:=fun σ H Q=>ta σ H fun x H1=>Q (.bl (!decide (x = .non))) H1
theorem RelV.none_iff{x:V}{v:Value}(r:RelV x v):(v == Value.none)=decide (x = .non):=by
 cases x with
 |non=>cases r;rfl
 |bl _=>cases r;rfl
 |int _=>obtain⟨t,rfl⟩:=r;rfl
 |str _=>obtain⟨t,rfl⟩:=r;rfl
 |byt _=>obtain⟨t,rfl⟩:=r;rfl
 |flt _=>obtain⟨t,rfl⟩:=r;rfl
 |ref _=>cases r;rfl
 |ty _=>cases r;rfl
theorem pc_notN{j pos'}(ha:PE X a ta):PC X .IsNot a (.Constant .none j pos') (tNotN ta):=by
 intro pins s σ H Q I h
 refine thn (ha pins s σ H _ I h) fun v s1 ⟨x,H1,I1,r1,q1⟩=>?_
 exact Constant_none (isnot_none_gen ⟨.bl _,H1,I1,by rw[r1.none_iff];rfl,q1⟩)
noncomputable def tB(t:TE):TT:=fun σ H Q=>t σ H fun x H1=>∃ c,x = .bl c/\Q c H1
theorem pt_cmp{op:CmpOp}{t:TE}(h:PC X op a b t)(h1:behindInMarks op b=false:=by first | exact nobehind _ (by decide) (by decide) | rfl):PT X (.Compare a [op] [b] pos) (tB t):=by
 intro pins s σ H Q I hw
 refine wpAny_isTrue_Compare1 (thn (h pins s σ H _ I hw) fun v s1 h1=>thn h1 fun u s2 h2=>thn h2 fun c s3 ⟨x,H1,I1,r1,q1⟩=>?_) h1
 obtain⟨d,rfl,q⟩:=q1
 cases r1
 exact wpAny_truthy_bool ⟨H1,I1,q⟩
theorem pt_val{e:Expr}{t:TE}(h:PE X e t)(he:∀ whole,isTrue e X.env whole=(do let v <- whole;standAt e.pos;holding [v] (truthy v)):=by intro _;rfl):PT X e (tB t):=by
 intro pins s σ H Q I hw
 refine isTrue_plain (thn (h pins s σ H _ I hw) fun v s1 ⟨x,H1,I1,r1,q1⟩=>?_) (he _)
 obtain⟨d,rfl,q⟩:=q1
 cases r1
 exact wpAny_truthy_bool ⟨H1,I1,q⟩
variable{tA tB':TT}{rest:List Expr}
noncomputable def tOr(t u:TT):TT:=fun σ H Q=>t σ H fun c H1=>if c=true then Q true H1 else u σ H1 Q
noncomputable def tNot(t:TT):TT:=fun σ H Q=>t σ H fun c H1=>Q (!c) H1
theorem pw_or1(ha:PT X a tA):PW X (.BoolOp .Or [a] pos) tA:=by
 intro wh pins s σ H Q I h
 refine isTrue_or (thn (ha pins s σ H Q I h) fun c s1 e=>?_)
 cases c with
 |false=>exact isTrue_or_nil e
 |true=>exact e
theorem pw_or(ha:PT X a tA)(hb:PW X (.BoolOp .Or (b :: rest) pos) tB'):PW X (.BoolOp .Or (a :: b :: rest) pos) (tOr tA tB'):=by
 intro wh pins s σ H Q I h
 refine isTrue_or (thn (ha pins s σ H _ I h) fun c s1 ⟨H1,I1,q1⟩=>?_)
 cases c with
 |true=>exact⟨H1,I1,q1⟩
 |false=>exact hb wh pins s1 σ H1 Q I1 q1
theorem pt_not(ha:PT X a tA):PT X (.UnaryOp .Not a pos) (tNot tA):=by
 intro pins s σ H Q I h
 exact isTrue_not (ha pins s σ H (fun c H1=>Q (!c) H1) I h)
noncomputable def tAndV(ta tb:TE):TE:=fun σ H Q=>ta σ H fun x H1=>∃ c,x = .bl c/\if c=true then tb σ H1 Q else Q (.bl false) H1
noncomputable def tOrV(ta tb:TE):TE:=fun σ H Q=>ta σ H fun x H1=>∃ c,x = .bl c/\if c=true then Q (.bl true) H1 else tb σ H1 Q
noncomputable def tNotV(ta:TE):TE:=fun σ H Q=>ta σ H fun x H1=>∃ c,x = .bl c/\Q (.bl (!c)) H1
theorem pe_one{op}{t:TE}(h:PE X a t):PE X (.BoolOp op [a] pos) t:=fun pins s σ H Q I hw=>BoolOp_one (h pins s σ H Q I hw)
theorem pe_and(ha:PE X a ta)(hb:PE X (.BoolOp .And (b :: rest) pos) tb):PE X (.BoolOp .And (a :: b :: rest) pos) (tAndV ta tb):=by
 intro pins s σ H Q I h
 refine BoolOp_and (thn (ha pins s σ H _ I h) fun v s1 ⟨x,H1,I1,r1,q1⟩=>?_)
 obtain⟨c,rfl,q1⟩:=q1
 cases r1
 refine wpAny_truthy_bool ?_
 cases c with
 |true=>exact hb pins s1 σ H1 Q I1 q1
 |false=>exact⟨.bl false,H1,I1,rfl,q1⟩
theorem pe_or(ha:PE X a ta)(hb:PE X (.BoolOp .Or (b :: rest) pos) tb):PE X (.BoolOp .Or (a :: b :: rest) pos) (tOrV ta tb):=by
 intro pins s σ H Q I h
 refine BoolOp_or (thn (ha pins s σ H _ I h) fun v s1 ⟨x,H1,I1,r1,q1⟩=>?_)
 obtain⟨c,rfl,q1⟩:=q1
 cases r1
 refine wpAny_truthy_bool ?_
 cases c with
 |false=>exact hb pins s1 σ H1 Q I1 q1
 |true=>exact⟨.bl true,H1,I1,rfl,q1⟩
theorem pe_not(ha:PE X a ta):PE X (.UnaryOp .Not a pos) (tNotV ta):=by
 intro pins s σ H Q I h
 refine UnaryOp_ (thn (ha pins s σ H _ I h) fun v s1 ⟨x,H1,I1,r1,q1⟩=>?_)
 obtain⟨c,rfl,q1⟩:=q1
 cases r1
 exact not_of (wpAny_truthy_bool ⟨.bl (!c),H1,I1,rfl,q1⟩)
noncomputable def tIf(t:TT)(ta tb:TE):TE:=fun σ H Q=>t σ H fun c H1=>if c=true then ta σ H1 Q else tb σ H1 Q
theorem pe_ifExp{c:Expr}(hc:PT X c tA)(ha:PE X a ta)(hb:PE X b tb):PE X (.IfExp c a b pos) (tIf tA ta tb):=by
 intro pins s σ H Q I h
 refine wpAny_IfExp (thn (hc pins s σ H _ I h) fun d s1 ⟨H1,I1,q1⟩=>?_)
 cases d with
 |true=>exact ha pins s1 σ H1 Q I1 q1
 |false=>exact hb pins s1 σ H1 Q I1 q1
end
open PySem PySem.Spec PyProof.Rows
noncomputable def SqL(K:PySem.W.Frag)(H:Hp)(a:Addr)(xs:List V):Prop :=
 Rd H a (.lst xs) \/
  ∃ (o:Obj) (its:Array Value) (n:Nat),K.lookup a=some o/\o.cls = .type "list"/\o.dict=none/\o.data = .seq its n/\its.size<=sizeLine/\Vals xs its.toList
noncomputable def SqT(K:PySem.W.Frag)(H:Hp)(a:Addr)(xs:List V):Prop :=
 Rd H a (.tup xs) \/
  ∃ (o:Obj) (its:Array Value) (n:Nat),K.lookup a=some o/\o.cls = .type "tuple"/\o.data = .seq its n/\its.size<=sizeLine/\Vals xs its.toList
noncomputable def absV:Value->Option V
 | .none=>some .non
 | .bool b=>some (.bl b)
 | .int i _=>some (.int i)
 | .str x _=>some (.str x)
 | .bytes b _=>some (.byt b)
 | .float b _=>some (.flt b)
 | .ref a=>some (.ref a)
 | .type n=>some (.ty n)
 | _=>none
theorem RelV.abs{x:V}{u:Value}(r:RelV x u):absV u=some x:=by
 cases x with
 |non=>cases r;rfl
 |bl _=>cases r;rfl
 |int _=>obtain⟨t,rfl⟩:=r;rfl
 |str _=>obtain⟨t,rfl⟩:=r;rfl
 |byt _=>obtain⟨t,rfl⟩:=r;rfl
 |flt _=>obtain⟨t,rfl⟩:=r;rfl
 |ref _=>cases r;rfl
 |ty _=>cases r;rfl
theorem RelV.inj{x y:V}{u:Value}(r:RelV x u)(q:RelV y u):x=y:=Option.some.inj (r.abs.symm.trans q.abs)
theorem Vals.inj:∀ {xs ys:List V}{us:List Value},Vals xs us->Vals ys us->xs=ys:=by
 intro xs ys us h
 induction h generalizing ys with
 |nil=>intro h';cases h';rfl
 |cons r t ih =>
  intro h'
  cases h' with
  |cons r' t'=>rw[r.inj r',ih t']
section
variable{X:Cx}{pins:List (Addr×Obj)}{σ:St}{H:Hp}{s:Shared}{a:Addr}{xs ys:List V}
theorem SqL.of{K:PySem.W.Frag}(h:H a=some (.lst xs)):SqL K H a xs:=.inl (.inl h)
theorem SqT.of{K:PySem.W.Frag}(h:H a=some (.tup xs)):SqT K H a xs:=.inl (.inl h)
theorem Inv.list(I:Inv X pins σ H s)(h:SqL X.K H a xs):∃ its:List Value,Vals xs its/\PlainL s.heap a its.toArray/\xs.length<=sizeLine:=by
 rcases h with h |⟨o,its,n,hk,hc,hd,hs,hz,r⟩
 ·obtain⟨z,its,n,r,e⟩:=h.ok I.hok
  exact⟨its,r,⟨_,n,e,rfl,rfl,rfl⟩,z⟩
 ·refine⟨its.toList,r,⟨o,n,I.kIn a o hk,hc,hd,by simpa using hs⟩,?_⟩
  have e:=r.length
  simp only[Array.length_toList]at e
  lia
theorem Inv.tuple(I:Inv X pins σ H s)(h:SqT X.K H a xs):∃ its:List Value,Vals xs its/\IsTup s.heap a its.toArray/\xs.length<=sizeLine:=by
 rcases h with h |⟨o,its,n,hk,hc,hs,hz,r⟩
 ·obtain⟨z,its,r,p⟩:=h.ok I.hok
  exact⟨its,r,p,z⟩
 ·refine⟨its.toList,r,⟨o,I.kIn a o hk,hc,n,by simpa using hs⟩,?_⟩
  have e:=r.length
  simp only[Array.length_toList]at e
  lia
theorem Inv.list_inj(I:Inv X pins σ H s)(h:SqL X.K H a xs)(h':SqL X.K H a ys):xs=ys:=by
 obtain⟨its,r,⟨o,n,e,_,_,d⟩,_⟩:=I.list h
 obtain⟨its',r',⟨o',n',e',_,_,d'⟩,_⟩:=I.list h'
 rw[e]at e';cases e'
 rw[d]at d'
 injection d' with d1 _
 have:its=its':=by simpa using congrArg Array.toList d1
 subst this
 exact r.inj r'
theorem Inv.tuple_inj(I:Inv X pins σ H s)(h:SqT X.K H a xs)(h':SqT X.K H a ys):xs=ys:=by
 obtain⟨its,r,⟨o,e,_,n,d⟩,_⟩:=I.tuple h
 obtain⟨its',r',⟨o',e',_,n',d'⟩,_⟩:=I.tuple h'
 rw[e]at e';cases e'
 rw[d]at d'
 injection d' with d1 _
 have:its=its':=by simpa using congrArg Array.toList d1
 subst this
 exact r.inj r'
end
noncomputable abbrev Cx.wish(X:Cx)(E:Value->Shared->Prop):Cx:={ X with xe:=E }
noncomputable abbrev Cx.nox(X:Cx):Cx:=X.wish fun _ _=>False
theorem Cx.Ok.wish{X:Cx}(ok:X.Ok)(E:Value->Shared->Prop):(X.wish E).Ok :=
 ⟨ok.mod,ok.kind,ok.glob,ok.blt,ok.above,ok.inj,ok.has,ok.cab,ok.hd,ok.frames,ok.stk,ok.exf,ok.bs,ok.bsz,ok.noex,ok.exfs,ok.funs,ok.frf⟩
theorem Cx.Ok.unwish{X:Cx}{E:Value->Shared->Prop}(ok:(X.wish E).Ok):X.Ok :=
 ⟨ok.mod,ok.kind,ok.glob,ok.blt,ok.above,ok.inj,ok.has,ok.cab,ok.hd,ok.frames,ok.stk,ok.exf,ok.bs,ok.bsz,ok.noex,ok.exfs,ok.funs,ok.frf⟩
section
variable{X:Cx}{pins:List (Addr×Obj)}{σ:St}{H:Hp}{s:Shared}{E:Value->Shared->Prop}
theorem Inv.wish(I:Inv X pins σ H s)(E:Value->Shared->Prop):Inv (X.wish E) pins σ H s:=⟨I.ok.wish E,I.os,I.bare,I.base,I.loc,I.cell,I.free,I.freeC,I.pin,I.hok,I.len⟩
theorem Inv.unwish(I:Inv (X.wish E) pins σ H s):Inv X pins σ H s:=⟨I.ok.unwish,I.os,I.bare,I.base,I.loc,I.cell,I.free,I.freeC,I.pin,I.hok,I.len⟩
theorem SP.unwish{D:Ends}{f:Flow}{s':Shared}(h:SP (X.wish E) pins D f s'):SP X pins D f s':=by
 cases f with
 |next=>obtain⟨σ',H',I,q⟩:=h;exact⟨σ',H',I.unwish,q⟩
 |brk=>obtain⟨σ',H',I,q⟩:=h;exact⟨σ',H',I.unwish,q⟩
 |cont=>obtain⟨σ',H',I,q⟩:=h;exact⟨σ',H',I.unwish,q⟩
 |ret u=>obtain⟨v,σ',H',I,r,q⟩:=h;exact⟨v,σ',H',I.unwish,r,q⟩
theorem PSs.nox{st:List Stmt}{t:TS}(h:PSs X.nox st t):PSs X st t:=fun pins s σ H D I hw =>
 wpAny_mono (h pins s σ H D (I.wish _) hw) (fun _ _ q=>q.unwish) fun _ _ z=>False.elim z
end
section
variable{X:Cx}{st:Stmt}{rest:List Stmt}{t u:TS}{e:Expr}{te:TE}{pos:Pos}
noncomputable def tNext:TS:=fun D σ H=>D.nx σ H
noncomputable def tSeq(t u:TS):TS:=fun D σ H=>t { D with nx:=u D } σ H
theorem pss_nil:PSs X [] tNext:=fun _ _ σ H _ I h=>wpAny_execs_nil ⟨σ,H,I,h⟩
theorem pss_cons(h1:PS X st t)(h2:PSs X rest u):PSs X (st :: rest) (tSeq t u):=by
 intro pins s σ H D I h
 refine wpAny_execs_cons (thn (h1 pins s σ H { D with nx:=u D } I h) fun f s1 q=>?_)
 cases f with
 |next =>
  obtain⟨σ',H',I',q⟩:=q
  exact h2 pins s1 σ' H' D I' q
 |ret v=>exact q
 |brk=>exact q
 |cont=>exact q
theorem pss_one(h1:PS X st t):PSs X [st] t:=by
 intro pins s σ H D I h
 refine wpAny_execs_cons (thn (h1 pins s σ H D I h) fun f s1 q=>?_)
 cases f with
 |next=>exact wpAny_execs_nil q
 |ret v=>exact q
 |brk=>exact q
 |cont=>exact q
theorem Inv.quiet{pins:List (Addr×Obj)}{σ:St}{H:Hp}{s:Shared}(I:Inv X pins σ H s):interactive X.env=false:=by simp[interactive,I.ok.kind]
noncomputable def tDrop(te:TE):TS:=fun D σ H=>te σ H fun _ H1=>D.nx σ H1
theorem ps_expr(he:PE X e te)(hs:swapsWith e none pos.line X.env=pure false:=by rfl):PS X (.Expr e pos) (tDrop te):=by
 intro pins s σ H D I h
 exact wpAny_Expr_any (thn (he pins s σ H _ I h) fun v s1 ⟨x,H1,I1,r1,q1⟩=>⟨σ,H1,I1,q1⟩) I.quiet hs
noncomputable def tRet(te:TE):TS:=fun D σ H=>te σ H D.rt
theorem ps_ret(he:PE X e te):PS X (.Return (some e) pos) (tRet te):=by
 intro pins s σ H D I h
 exact wpAny_Return_some (thn (he pins s σ H _ I h) fun v s1 ⟨x,H1,I1,r1,q1⟩=>⟨x,σ,H1,I1,r1,q1⟩)
noncomputable def tIfS(c:TT)(t u:TS):TS:=fun D σ H=>c σ H fun b H1=>if b=true then t D σ H1 else u D σ H1
theorem ps_if{c:Expr}{a b:List Stmt}{tc:TT}(hc:PT X c tc)(ha:PSs X a t)(hb:PSs X b u):PS X (.If c a b pos) (tIfS tc t u):=by
 intro pins s σ H D I h
 refine wpAny_If (thn (hc pins s σ H _ I h) fun d s1 ⟨H1,I1,q1⟩=>?_)
 cases d with
 |true=>exact ha pins s1 σ H1 D I1 q1
 |false=>exact hb pins s1 σ H1 D I1 q1
noncomputable def tNever:TS:=fun _ _ _=>False
theorem ps_never:PS X st tNever:=fun _ _ _ _ _ _ h=>h.elim
theorem pss_never{sts:List Stmt}:PSs X sts tNever:=fun _ _ _ _ _ _ h=>h.elim
end
noncomputable abbrev TG:=V->St->Hp->(St->Hp->Prop)->Prop
noncomputable abbrev TGs:=List V->St->Hp->(St->Hp->Prop)->Prop
noncomputable def PG(X:Cx)(target:Expr)(t:TG):Prop :=
 ∀ (pins:List (Addr×Obj)) (s:Shared) (σ:St) (H:Hp) (v:V) (u:Value) (Q:St->Hp->Prop),Inv X pins σ H s->RelV v u->t v σ H Q ->
  wpAny (model X.prog X.w) X.A (assign target X.env u) (fun _ s'=>∃ σ' H',Inv X pins σ' H' s'/\Q σ' H') X.xe s
noncomputable def PGs(X:Cx)(ts:List Expr)(t:TGs):Prop :=
 ∀ (pins:List (Addr×Obj)) (s:Shared) (σ:St) (H:Hp) (vs:List V) (us:List Value) (Q:St->Hp->Prop),Inv X pins σ H s->Vals vs us->t vs σ H Q ->
  wpAny (model X.prog X.w) X.A (assignInOrder ((assignEach ts X.env).map (·.2)) us) (fun _ s'=>∃ σ' H',Inv X pins σ' H' s'/\Q σ' H') X.xe s
noncomputable abbrev TSet:=V->V->V->Hp->(Hp->Prop)->Prop
noncomputable def PSet(X:Cx)(t:TSet):Prop :=
 ∀ (pins:List (Addr×Obj)) (s:Shared) (σ:St) (H:Hp) (o i v:V) (ov iv u:Value) (Q:Hp->Prop),Inv X pins σ H s->RelV o ov->RelV i iv->RelV v u->t o i v H Q ->
  wpAny (model X.prog X.w) X.A (setItem ov iv u) (fun _ s'=>∃ H',Inv X pins σ H' s'/\Q H') X.xe s
section
variable{X:Cx}{pos:Pos}
noncomputable def gName(i:Nat):TG:=fun v σ H Q=>Q (σ.set i (some v)) H
theorem pg_name{i:Nat}{x:Str}(hN:X.N.Nodup)(hi:X.N[i]?=some x)(hx:Loc X.env.scope x)(hf:X.fn x=true\/X.env.scope.names.lookup x=some .local:=by first | exact .inl rfl | exact .inr rfl | assumption):PG X (.Name x pos) (gName i):=by
 intro pins s σ H v u Q I r h
 exact wpAny_assign_Name (store_ok I hN hi hx r (fun s' I'=>⟨_,H,I',h⟩) hf)
noncomputable def gNil:TGs:=fun vs σ H Q=>vs=[]/\Q σ H
noncomputable def gCons(t:TG)(u:TGs):TGs:=fun vs σ H Q=>∃ v r,vs=v :: r/\t v σ H fun σ' H'=>u r σ' H' Q
theorem pgs_nil:PGs X [] gNil:=by
 intro pins s σ H vs us Q I r h
 obtain⟨e,h⟩:=h
 subst e
 cases r
 exact assignInOrder_nil ⟨σ,H,I,h⟩
theorem pgs_cons{e:Expr}{es:List Expr}{t:TG}{u:TGs}(h1:PG X e t)(h2:PGs X es u)
  (hs:(assignEach (e :: es) X.env).map (·.2)=assign e X.env :: (assignEach es X.env).map (·.2):=by rfl):PGs X (e :: es) (gCons t u):=by
 intro pins s σ H vs us Q I r h
 obtain⟨v,vr,e1,h⟩:=h
 subst e1
 cases r with
 |cons r rr =>
  rw[hs]
  refine assignInOrder_cons (thn (h1 pins s σ H _ _ _ I r h) fun _ s1 ⟨σ1,H1,I1,q1⟩=>?_)
  exact h2 pins s1 σ1 H1 _ _ Q I1 rr q1
noncomputable def gTup(K:PySem.W.Frag)(n:Nat)(t:TGs):TG:=fun v σ H Q=>∃ a xs,v = .ref a/\SqT K H a xs/\xs.length=n/\t xs σ H Q
theorem pg_tup{es:List Expr}{k:Nat}{t:TGs}{n:Nat}(hc:X.calm=true)(h:PGs X es t)
  (hn:(assignEach es X.env).length=n:=by rfl) (hst:(assignEach es X.env).findIdx? (·.1)=none:=by rfl):PG X (.Tuple es k pos) (gTup X.K n t):=by
 intro pins s σ H v u Q I r hw
 obtain⟨a,xs,e1,hq,hl,hw⟩:=hw
 subst e1
 cases r
 obtain⟨its,rv,ht,hz⟩:=I.tuple hq
 refine assign_Tuple_tuple (I.ok.hd hc) ht (by simp[hn,<- hl,rv.length]) hst fun h' hx=>?_
 have I1:Inv X pins σ H { s with heap:=h' }:=I.kept (t':=s.toks) fun b o e=>hx b o (Nat.ne_of_lt (Heap.lt_size e)) e
 exact h pins _ σ H xs _ Q I1 (by simpa using rv) hw
noncomputable def gSub(to ti:TE)(t:TSet):TG:=fun v σ H Q=>to σ H fun o H1=>ti σ H1 fun i H2=>t o i v H2 fun H3=>Q σ H3
theorem pg_sub{o i:Expr}{to ti:TE}{t:TSet}(ho:PE X o to)(hi:PE X i ti)(hs:PSet X t)
  (ha:∀ v,assign (.Subscript o i pos) X.env v=(do
   let ov <- holding [v] (eval o X.env)
   let iv <- holding [v,ov] (eval i X.env)
   standAt pos
   holding [v,ov,iv] (setItem ov iv v)
   release [v,ov,iv] []):=by intro _;rfl):PG X (.Subscript o i pos) (gSub to ti t):=by
 intro pins s σ H v u Q I r h
 rw[ha]
 refine wpAny_bind (wpAny_holding (thn (ho pins s σ H _ I h) fun ov s1 ⟨x,H1,I1,r1,q1⟩=>?_))
 refine wpAny_bind (wpAny_holding (thn (hi pins s1 σ H1 _ I1 q1) fun iv s2 ⟨y,H2,I2,r2,q2⟩=>?_))
 refine wpAny_bind (wpAny_standAt (wpAny_bind (wpAny_holding (thn (hs pins s2 σ H2 x y v ov iv u _ I2 r1 r2 r q2) fun _ s3 ⟨H3,I3,q3⟩=>?_))))
 exact wpAny_release ⟨σ,H3,I3,q3⟩
noncomputable def tAsg(te:TE)(g:TG):TS:=fun D σ H=>te σ H fun x H1=>g x σ H1 D.nx
theorem ps_asg{tg e:Expr}{te:TE}{g:TG}(he:PE X e te)(hg:PG X tg g)(hs:swapsWithSole [tg] e pos.line X.env=pure false:=by rfl)(hw:swappedStores [tg] e X.env=pure none:=by rfl)
  (h1:(assignEach [tg] X.env).map (·.2)=[assign tg X.env]:=by rfl):PS X (.Assign [tg] e pos) (tAsg te g):=by
 intro pins s σ H D I h
 refine wpAny_Assign_stores (thn (he pins s σ H _ I h) fun v s1 ⟨x,H1,I1,r1,q1⟩=>?_) hs hw
 rw[h1]
 exact thn (hg pins s1 σ H1 x v _ I1 r1 q1) fun _ s2 q=>q
theorem ps_set{i:Nat}{x:Str}{e:Expr}{te:TE}{pos':Pos}(hN:X.N.Nodup)(hi:X.N[i]?=some x)(hx:Loc X.env.scope x)(he:PE X e te)(hs:swapsWith e (some (.Name x pos')) pos.line X.env=pure false:=by rfl)(hf:X.fn x=true\/X.env.scope.names.lookup x=some .local:=by first | exact .inl rfl | exact .inr rfl | assumption) :
  PS X (.Assign [.Name x pos'] e pos) (tAsg te (gName i)):=by
 intro pins s σ H D I h
 refine wpAny_Assign_Name (thn (he pins s σ H _ I h) fun v s1 ⟨y,H1,I1,r1,q1⟩=>?_) hs
 exact store_ok I1 hN hi hx r1 (fun s2 I2=>⟨_,H1,I2,q1⟩) hf
noncomputable def tPar(i j:Nat)(ta:TA):TS:=fun D σ H=>ta σ H fun vs H1=>∃ v w,vs=[v,w]/\D.nx ((σ.set i (some v)).set j (some w)) H1
theorem ps_par{i j:Nat}{x y:Str}{a b:Expr}{ta:TA}{px py pt:Pos}{kt k2 pt2}(hc:X.calm=true)(hN:X.N.Nodup)(hi:X.N[i]?=some x)(hj:X.N[j]?=some y)(hij:i≠j)
  (hx:X.env.scope.names.lookup x=some .local) (hy:X.env.scope.names.lookup y=some .local) (ha:PA X [a,b] ta)
  (hw:swappedStores [.Tuple [.Name x px,.Name y py] kt pt] (.Tuple [a,b] k2 pt2) X.env=pure (some [x,y]))
  (hs:swapsWithSole [.Tuple [.Name x px,.Name y py] kt pt] (.Tuple [a,b] k2 pt2) pos.line X.env=pure false:=by rfl) :
  PS X (.Assign [.Tuple [.Name x px,.Name y py] kt pt] (.Tuple [a,b] k2 pt2) pos) (tPar i j ta):=by
 intro pins s σ H D I h
 rw[exec_Assign_arm]
 refine wpAny_bind (wpAny_standAt ?_)
 rw[hs]
 refine wpAny_bind (wpAny_pure ?_)
 rw[if_neg (by decide)]
 refine wpAny_bind (Tuple_ (thn (ha _ pins s σ H _ I h) fun us s1 ⟨vs,H1,I1,r1,q1⟩=>?_))
 obtain⟨v,w,e1,q1⟩:=q1
 subst e1
 obtain⟨u1,u2,rfl,rv,rw'⟩:∃ u1 u2,us=[u1,u2]/\RelV v u1/\RelV w u2:=by
  cases r1 with
  |cons p q =>
   cases q with
   |cons p' q' =>
    cases q'
    exact⟨_,_,rfl,p,p'⟩
 refine wpAny_newObj_type ?_ (by show 2<=sizeLine;decide)
 have I2:Inv X pins σ H1 { s1 with heap:=s1.heap.push { cls:=.type "tuple",data:=.seq [u1,u2].toArray } }:=I1.kept (t':=s1.toks) fun b o e=>Heap.get?_push_of_some _ e
 rw[hw]
 refine wpAny_bind (wpAny_pure ?_)
 show wpAny (model X.prog X.w) X.A (do rule "assign.swapped-stores";let items <- unpackItems (.ref s1.heap.objs.size) 2 none;assignInOrder [fun v=>bindName X.env y v,fun v=>bindName X.env x v] items.reverse;pure Flow.next) _ _ _
 refine wpAny_bind (wpAny_rule (wpAny_bind (unpackItems_tuple (items:=#[u1,u2]) (I.ok.hd hc) (IsTup.new s1.heap _) fun h' hx'=>?_)))
 have I3:=I2.kept (h':=h') (t':=s1.toks) fun b o e=>hx' b o (Nat.ne_of_lt (Heap.lt_size e)) e
 show wpAny _ _ (assignInOrder [fun v=>bindName X.env y v,fun v=>bindName X.env x v] [u2,u1] >>= fun _=>pure Flow.next) _ _ _
 refine wpAny_bind (assignInOrder_cons (wpAny_bindName (store_ok I3 hN hj (.inl hy) rw' (fun s2 I4=>?_) (.inr hy))))
 refine assignInOrder_cons (wpAny_bindName (store_ok I4 hN hi (.inl hx) rv (fun s3 I5=>assignInOrder_nil (wpAny_pure ?_)) (.inr hx)))
 rw[List.set_comm _ _ (Ne.symm hij)]at I5
 exact⟨_,H1,I5,q1⟩
end
section
variable{X:Cx}{pos:Pos}
noncomputable def tWhile(c:TT)(tb:TS):TS:=fun D σ H=>∃ W:Nat->St->Hp->Prop,(∃ m,W m σ H)/\∀ m σ H,W m σ H ->
 c σ H fun b H1=>if b=true then ∃ N:St->Hp->Prop,(∀ σ' H',N σ' H'->∃ m',m'<m/\W m' σ' H')/\tb { D with nx:=N,ct:=N,bk:=D.nx } σ H1 else D.nx σ H1
theorem ps_while{c:Expr}{body:List Stmt}{tc:TT}{tb:TS}(hp:PassesOwn (model X.prog X.w) X.A X.env X.xe)(hc:PT X c tc)(hb:PSs X body tb):PS X (.While c body [] pos) (tWhile tc tb):=by
 intro pins s σ H D I h
 obtain⟨W,⟨m0,w0⟩,turn⟩:=h
 refine wpAny_While (codeAny_whileLoop (fun n s'=>∃ σ' H',Inv X pins σ' H' s'/\W n σ' H') ?_ m0 ⟨σ,H,I,w0⟩)
 rintro n s1 ⟨σ1,H1,I1,w1⟩
 refine wpAny_passesOwn hp (thn (hc pins s1 σ1 H1 _ I1 (turn n σ1 H1 w1)) fun b s2 ⟨H2,I2,q2⟩=>?_)
 cases b with
 |true =>
  obtain⟨N,hN,q2⟩:=q2
  rw[if_pos rfl]
  refine wpAny_passesOwn hp (thn (hb pins s2 σ1 H2 _ I2 q2) fun f s3 q3=>?_)
  cases f with
  |next =>
   obtain⟨σ3,H3,I3,n3⟩:=q3
   obtain⟨m',hm,w3⟩:=hN σ3 H3 n3
   exact⟨m',hm,σ3,H3,I3,w3⟩
  |cont =>
   obtain⟨σ3,H3,I3,n3⟩:=q3
   obtain⟨m',hm,w3⟩:=hN σ3 H3 n3
   exact⟨m',hm,σ3,H3,I3,w3⟩
  |brk=>exact q3
  |ret v=>exact q3
 |false =>
  rw[if_neg Bool.false_ne_true]
  exact wpAny_execs_nil ⟨σ1,H2,I2,q2⟩
end
structure It where
 go:Nat->Hp->Prop
 yld:Nat->Hp->V->Hp->Prop
 stop:Nat->Hp->Prop
noncomputable def FpOk(X:Cx)(pins:List (Addr×Obj))(H:Hp)(b:Addr):Prop :=
 H b=none/\b≠X.env.locals/\b∉X.fs/\(b∈X.ex\/X.s₀.heap.objs.size<=b)/\(∀ x c,X.env.cells.lookup x=some c->c≠b)/\∀ p∈X.pn++pins,p.1≠b
theorem Inv.fpOk{X:Cx}{pins:List (Addr×Obj)}{σ:St}{H H':Hp}{s:Shared}{b:Addr}(I:Inv X pins σ H s)(hb:s.heap.objs.size<=b)(hn:H' b=none):FpOk X pins H' b:=by
 refine⟨hn,Nat.ne_of_gt (Nat.lt_of_lt_of_le I.lt hb),I.nofs hb,.inr (Nat.le_trans I.sz hb),fun x c e z=>?_,fun p hp z=>?_⟩
 ·obtain⟨v,q⟩:=I.cell x c e
  exact absurd (Nat.lt_of_lt_of_le q.lt (by rw[z];exact hb)) (Nat.lt_irrefl _)
 ·exact absurd (Nat.lt_of_lt_of_le (Heap.lt_size (I.pin p hp).1) (by rw[z];exact hb)) (Nat.lt_irrefl _)
structure Turn(P:Program)(w:World)(K:PySem.W.Frag)(tg:Expr)(J:It)(fp:List Addr)(it:Addr)(tn:Nat->Heap->Prop):Prop where
 mem:it∈fp
 obj:∀ i h,tn i h->∀ b∈fp,∃ o,h.get? b=some o/\∀ v,o.data≠.cell v
 keep:∀ i h h',tn i h->(∀ b∈fp,∀ o,h.get? b=some o->h'.get? b=some o)->tn i h'
 item:∀ (X:Cx),X.prog=P->X.w=w->X.K=K->X.calm=true->∀ (i:Nat) (pins:List (Addr×Obj)) (s:Shared) (σ:St) (H:Hp) (E:Value->Shared->Prop),Inv X pins σ H s->(∀ b∈fp,FpOk X pins H b)->tn i s.heap->J.go i H ->
  wpAny (model P w) X.A (pyNext (.ref it)) (fun r s1=>∃ u,r=some u /\
   wpAny (model P w) X.A (letOwnedTupleGo tg (.ref it) u) (fun _ s2=>∃ x H',Inv X pins σ H' s2/\RelV x u/\J.yld i H x H'/\tn (i+1) s2.heap/\∀ b∈fp,H' b=none) E s1) E s
 done:∀ (X:Cx),X.prog=P->X.w=w->X.K=K->X.calm=true->∀ (i:Nat) (pins:List (Addr×Obj)) (s:Shared) (σ:St) (H:Hp) (E:Value->Shared->Prop),Inv X pins σ H s->(∀ b∈fp,FpOk X pins H b)->tn i s.heap->J.stop i H ->
  wpAny (model P w) X.A (pyNext (.ref it)) (fun r s1=>r=none/\Inv X pins σ H s1) E s
 self:∀ (A:Around) (i:Nat) (s:Shared) (Q:Value->Shared->Prop) (E:Value->Shared->Prop),tn i s.heap->Q (.ref it) s->wpAny (model P w) A (pyIter (.ref it)) Q E s
noncomputable abbrev TI:=St->Hp->(It->Hp->Prop)->Prop
noncomputable def PIE(X:Cx)(pins:List (Addr×Obj))(σ:St)(tg:Expr)(R:It->Hp->Prop)(itv:Value)(s2:Shared):Prop :=
 ∃ (it:Addr) (fp:List Addr) (tn:Nat->Heap->Prop) (J:It) (H':Hp),itv = .ref it/\Inv X pins σ H' s2/\Turn X.prog X.w X.K tg J fp it tn/\tn 0 s2.heap/\(∀ b∈fp,FpOk X pins H' b)/\R J H'
noncomputable def PI(X:Cx)(tg iter:Expr)(wi:TI):Prop :=
 ∀ (pins:List (Addr×Obj)) (s:Shared) (σ:St) (H:Hp) (R:It->Hp->Prop),Inv X pins σ H s->wi σ H R ->
  wpAny (model X.prog X.w) X.A (eval iter X.env) (fun v s1=>wpAny (model X.prog X.w) X.A (pyIter v) (PIE X pins σ tg R) X.xe s1) X.xe s
theorem go_of {M : Model} {A : Around} {E : Value → Shared → Prop} {s : Shared} {tg : Expr} {it : Addr} {u : Value} {o : Obj} {n : String} {vs : Array Value} {Q : Unit → Shared → Prop} (ho : s.heap.get? it = some o) (hc : o.cls = .type n) (hd : o.data = .fields vs)
    (hn : ["enumerate", "zip", "dict_itemiterator", "dict_reverseitemiterator", "odict_iterator", "itertools.zip_longest", "itertools.pairwise"].contains n = false) (hQ : Q () s) : wpAny M A (letOwnedTupleGo tg (.ref it) u) Q E s := by
  unfold letOwnedTupleGo
  cases tg <;> first
    | exact wpAny_pure hQ
    | (cases u <;> first
        | exact wpAny_pure hQ
        | (refine wpAny_bind (wpAny_load ho ?_)
           rw [hc, hd]
           show wpAny M A (if (["enumerate", "zip", "dict_itemiterator", "dict_reverseitemiterator", "odict_iterator", "itertools.zip_longest", "itertools.pairwise"].contains n && vs[0]? == some (rawInt _)) = true then _ else _) Q E s
           rw [if_neg (by intro h; rw [hn, Bool.false_and] at h; cases h)]
           exact wpAny_pure hQ))
noncomputable def Itl(K:PySem.W.Frag)(a:Addr):It :=
 ⟨fun i H=>∃ xs x,SqL K H a xs/\xs[i]?=some x,fun i H x H'=>H'=H/\∀ xs,SqL K H a xs->xs[i]?=some x,fun i H=>∃ xs,SqL K H a xs/\xs.length<=i⟩
noncomputable def Itt(K:PySem.W.Frag)(a:Addr):It :=
 ⟨fun i H=>∃ xs x,SqT K H a xs/\xs[i]?=some x,fun i H x H'=>H'=H/\∀ xs,SqT K H a xs->xs[i]?=some x,fun i H=>∃ xs,SqT K H a xs/\xs.length<=i⟩
noncomputable def Itr(lo:Int)(n:Nat):It:=⟨fun i _=>i<n,fun i H x H'=>H'=H/\x = .int (lo+i),fun i _=>n<=i⟩
theorem turn_list{P:Program}{w:World}{K:PySem.W.Frag}{tg:Expr}(a it:Addr):Turn P w K tg (Itl K a) [it] it (fun i h=>h.IsListIter it a i)where
 mem:=by simp
 obj:=fun i h st b hb=>by
  have e:b=it:=by simpa using hb
  subst e
  obtain⟨o,e,c,d⟩:=st
  exact⟨o,e,fun v z=>by rw[d]at z;cases z⟩
 keep:=fun i h h' st k=>st.at fun o e=>k it (by simp) o e
 item:=by
  intro X hP hw hK hc i pins s σ H E I hf st hg
  subst hP hw hK
  obtain⟨xs,x,hq,hx⟩:=hg
  obtain⟨its,rv,p,hz⟩:=I.list hq
  obtain⟨u,hu,ru⟩:=rv.get hx
  obtain⟨f0,f1,f2,f3,f4,f5⟩:=hf it (by simp)
  refine wpAny_pyNext_list_item st p.isList (x:=u) (by simpa using hu) fun h' st' sb=>?_
  have I1:Inv X pins σ H { s with heap:=h' }:=I.turned (t':=s.toks) (fun b o hb e=>(sb.2 b hb).trans e) f0 f1 f3 f4 f5
  obtain⟨o,e,c,d⟩:=id st'
  exact⟨u,rfl,go_of (s:={ s with heap:=h' }) e c d (by decide) ⟨x,H,I1,ru,⟨rfl,fun ys hy=>by rw[I.list_inj hy hq];exact hx⟩,st',fun b hb=>(hf b hb).1⟩⟩
 done:=by
  intro X hP hw hK hc i pins s σ H E I hf st hg
  subst hP hw hK
  obtain⟨xs,hq,hx⟩:=hg
  obtain⟨its,rv,p,hz⟩:=I.list hq
  obtain⟨f0,f1,f2,f3,f4,f5⟩:=hf it (by simp)
  have hl:=rv.length
  exact wpAny_pyNext_list_end (I.ok.hd hc) st p.isList (by simp;lia) fun h' eb=>⟨rfl,I.turned (t':=s.toks) (fun b o hb e=>eb b o hb e) f0 f1 f3 f4 f5⟩
 self:=fun _ _ _ _ _ st h=>wpAny_pyIter_listiter st h
theorem turn_tuple{P:Program}{w:World}{K:PySem.W.Frag}{tg:Expr}(a it:Addr):Turn P w K tg (Itt K a) [it] it (fun i h=>h.IsTupleIter it a i)where
 mem:=by simp
 obj:=fun i h st b hb=>by
  have e:b=it:=by simpa using hb
  subst e
  obtain⟨o,e,c,d⟩:=st
  exact⟨o,e,fun v z=>by rw[d]at z;cases z⟩
 keep:=fun i h h' st k=>st.at fun o e=>k it (by simp) o e
 item:=by
  intro X hP hw hK hc i pins s σ H E I hf st hg
  subst hP hw hK
  obtain⟨xs,x,hq,hx⟩:=hg
  obtain⟨its,rv,p,hz⟩:=I.tuple hq
  obtain⟨u,hu,ru⟩:=rv.get hx
  obtain⟨f0,f1,f2,f3,f4,f5⟩:=hf it (by simp)
  refine wpAny_pyNext_tuple_item st (show s.heap.IsTuple a its.toArray from p) (x:=u) (by simpa using hu) fun h' st' sb=>?_
  have I1:Inv X pins σ H { s with heap:=h' }:=I.turned (t':=s.toks) (fun b o hb e=>(sb.2 b hb).trans e) f0 f1 f3 f4 f5
  obtain⟨o,e,c,d⟩:=id st'
  exact⟨u,rfl,go_of (s:={ s with heap:=h' }) e c d (by decide) ⟨x,H,I1,ru,⟨rfl,fun ys hy=>by rw[I.tuple_inj hy hq];exact hx⟩,st',fun b hb=>(hf b hb).1⟩⟩
 done:=by
  intro X hP hw hK hc i pins s σ H E I hf st hg
  subst hP hw hK
  obtain⟨xs,hq,hx⟩:=hg
  obtain⟨its,rv,p,hz⟩:=I.tuple hq
  obtain⟨f0,f1,f2,f3,f4,f5⟩:=hf it (by simp)
  have hl:=rv.length
  exact wpAny_pyNext_tuple_end (I.ok.hd hc) st (show s.heap.IsTuple a its.toArray from p) (by simp;lia) fun h' eb=>⟨rfl,I.turned (t':=s.toks) (fun b o hb e=>eb b o hb e) f0 f1 f3 f4 f5⟩
 self:=fun _ _ _ _ _ st h=>wpAny_pyIter_tupleiter st h
theorem turn_range{P:Program}{w:World}{K:PySem.W.Frag}{tg:Expr}(it:Addr)(lo:Int)(n:Nat):Turn P w K tg (Itr lo n) [it] it (fun i h=>IsRangeIter h it (lo+(i:Nat) * 1) ((n:Int)-(i:Nat)) 1)where
 mem:=by simp
 obj:=fun i h st b hb=>by
  have e:b=it:=by simpa using hb
  subst e
  exact⟨_,st,fun v z=>by
   have z':Data.fields _=Data.cell v:=z
   cases z'⟩
 keep:=fun i h h' st k=>k it (by simp) _ st
 item:=by
  intro X hP hw hK hc i pins s σ H E I hf st hg
  subst hP hw hK
  obtain⟨f0,f1,f2,f3,f4,f5⟩:=hf it (by simp)
  have W:=Walks.range (prog:=X.prog) (w:=X.w) (I.ok.hd hc) it lo 1 n
  refine W.item i s _ _ hg st fun v h' tk hv st' kk=>?_
  obtain⟨t,rfl⟩:=hv
  have I1:Inv X pins σ H { s with heap:=h',toks:=tk }:=I.turned (fun b o hb e=>kk b o (by simpa using hb) e) f0 f1 f3 f4 f5
  refine⟨_,rfl,go_of (s:={ s with heap:=h',toks:=tk }) (n:="range_iterator") st' rfl rfl (by decide) ⟨.int (lo+i),H,I1,⟨t,?_⟩,⟨rfl,rfl⟩,st',fun b hb=>(hf b hb).1⟩⟩
  rw[Int.mul_one]
 done:=by
  intro X hP hw hK hc i pins s σ H E I hf st hg
  subst hP hw hK
  obtain⟨f0,f1,f2,f3,f4,f5⟩:=hf it (by simp)
  exact wpAny_pyNext_range_end (I.ok.hd hc) st (by have:n<=i:=hg;lia) fun h' eb=>⟨rfl,I.turned (t':=s.toks) (fun b o hb e=>eb b o hb e) f0 f1 f3 f4 f5⟩
 self:=fun _ _ _ _ _ st h=>wpAny_pyIter_rangeiter st h
open PySem PySem.Spec PyProof.Rows
section
variable{X:Cx}{tg:Expr}
noncomputable def iList(K:PySem.W.Frag)(tl:TE):TI:=fun σ H R=>tl σ H fun x H1=>∃ a,x = .ref a/\(∃ xs,SqL K H1 a xs)/\R (Itl K a) H1
noncomputable def iTup(K:PySem.W.Frag)(tl:TE):TI:=fun σ H R=>tl σ H fun x H1=>∃ a,x = .ref a/\(∃ xs,SqT K H1 a xs)/\R (Itt K a) H1
theorem pi_list{l:Expr}{tl:TE}(hl:PE X l tl):PI X tg l (iList X.K tl):=by
 intro pins s σ H R I h
 refine thn (hl pins s σ H _ I h) fun v s1 ⟨x,H1,I1,r1,q1⟩=>?_
 obtain⟨a,e,⟨xs,hq⟩,q⟩:=q1
 subst e
 cases r1
 obtain⟨its,rv,p,hz⟩:=I1.list hq
 refine wpAny_pyIter_list p.isList ?_
 refine⟨s1.heap.objs.size,[s1.heap.objs.size],_,_,H1,rfl,I1.kept (t':=s1.toks) fun b o e=>Heap.get?_push_of_some _ e,turn_list a _,⟨_,Heap.get?_push_size _ rfl,rfl,rfl⟩,fun b hb=>?_,q⟩
 have e:b=s1.heap.objs.size:=by simpa using hb
 subst e
 exact I1.fpOk (Nat.le_refl _) (I1.hok.fresh (Nat.le_refl _))
theorem pi_tup{l:Expr}{tl:TE}(hl:PE X l tl):PI X tg l (iTup X.K tl):=by
 intro pins s σ H R I h
 refine thn (hl pins s σ H _ I h) fun v s1 ⟨x,H1,I1,r1,q1⟩=>?_
 obtain⟨a,e,⟨xs,hq⟩,q⟩:=q1
 subst e
 cases r1
 obtain⟨its,rv,p,hz⟩:=I1.tuple hq
 refine wpAny_pyIter_tuple (show s1.heap.IsTuple a its.toArray from p) ?_
 refine⟨s1.heap.objs.size,[s1.heap.objs.size],_,_,H1,rfl,I1.kept (t':=s1.toks) fun b o e=>Heap.get?_push_of_some _ e,turn_tuple a _,⟨_,Heap.get?_push_size _ rfl,rfl,rfl⟩,fun b hb=>?_,q⟩
 have e:b=s1.heap.objs.size:=by simpa using hb
 subst e
 exact I1.fpOk (Nat.le_refl _) (I1.hok.fresh (Nat.le_refl _))
theorem range_it{pins:List (Addr×Obj)}{σ:St}{H:Hp}{s:Shared}{R:It->Hp->Prop}{E:Value->Shared->Prop}{lo hi:Int}{t u v:Tok}{tk:Nat}(I:Inv X pins σ H s)(h1:-(2 ^ 62)<=lo)(h2:lo<2 ^ 62)(h3:-(2 ^ 62)<=hi)(h4:hi<2 ^ 62)
  (q:R (Itr lo (hi-lo).toNat) H):wpAny (model X.prog X.w) X.A (pyIter (.ref s.heap.objs.size)) (PIE X pins σ tg R) E { s with heap:=s.heap.push { cls:=.type "range",data:=.fields #[.int lo t,.int hi u,.int 1 v] },toks:=tk }:=by
 refine wpAny_pyIter_range (IsRange.new ..) (small_one h1 h2 h3 h4) ?_
 have I1:Inv X pins σ H { s with heap:=s.heap.push { cls:=.type "range",data:=.fields #[.int lo t,.int hi u,.int 1 v] },toks:=tk }:=I.kept fun b o e=>Heap.get?_push_of_some _ e
 refine⟨(s.heap.push { cls:=.type "range",data:=.fields #[.int lo t,.int hi u,.int 1 v] }).objs.size,[(s.heap.push { cls:=.type "range",data:=.fields #[.int lo t,.int hi u,.int 1 v] }).objs.size],_,_,H,rfl,
  I1.kept (t':=tk) fun b o e=>Heap.get?_push_of_some _ e,turn_range _ lo (hi-lo).toNat,?_,fun b hb=>?_,q⟩
 ·have e1:lo+((0:Nat):Int) * 1=lo:=by simp
  have e2:(((hi-lo).toNat:Nat):Int)-((0:Nat):Int)=Builtin.Range.rangeSize lo hi 1:=by rw[rangeSize_one];split <;> lia
  show IsRangeIter _ _ (lo+((0:Nat):Int) * 1) ((((hi-lo).toNat:Nat):Int)-((0:Nat):Int)) 1
  rw[e1,e2]
  exact Heap.get?_push_size _ rfl
 ·have e:b=(s.heap.push { cls:=.type "range",data:=.fields #[.int lo t,.int hi u,.int 1 v] }).objs.size:=by simpa using hb
  subst e
  exact I1.fpOk (Nat.le_refl _) (I1.hok.fresh (Nat.le_refl _))
noncomputable def iRng1(ta:TA):TI:=fun σ H R=>ta σ H fun vs H1=>∃ j:Int,vs=[.int j]/\-(2 ^ 62)<=j/\j<2 ^ 62/\R (Itr 0 j.toNat) H1
noncomputable def iRng2(ta:TA):TI:=fun σ H R=>ta σ H fun vs H1=>∃ i j:Int,vs=[.int i,.int j]/\(-(2 ^ 62)<=i/\i<2 ^ 62/\-(2 ^ 62)<=j/\j<2 ^ 62)/\R (Itr i (j-i).toNat) H1
theorem pi_range1{a:Expr}{ta:TA}{p pos:Pos}(hg:Gl X "range")(hm:X.mg "range" = none)(ha:PA X [a] ta)(hs:starEach [a] X.env=[(false,eval a X.env)]:=by rfl):PI X tg (.Call (.Name "range" p) [a] [] pos) (iRng1 ta):=by
 intro pins s σ H R I h
 refine Call_ (ld_blt I hg hm boot_range (PyProof.Rows.callWith_type1 (thn (ha pos pins s σ H _ I h) fun us s1 ⟨vs,H1,I1,r1,q1⟩=>?_) hs rfl))
 obtain⟨j,e,q1,q2,q⟩:=q1
 subst e
 cases r1 with
 |cons r rr =>
  cases rr
  obtain⟨t,rfl⟩:=r
  exact call_range_1 (range_it I1 (by lia) (by lia) q1 q2 (by simpa using q))
theorem pi_range2{a b:Expr}{ta:TA}{p pos:Pos}(hg:Gl X "range")(hm:X.mg "range" = none)(ha:PA X [a,b] ta)(hs:starEach [a,b] X.env=[(false,eval a X.env),(false,eval b X.env)]:=by rfl)(hs2:starEach [b] X.env=[(false,eval b X.env)]:=by rfl) :
  PI X tg (.Call (.Name "range" p) [a,b] [] pos) (iRng2 ta):=by
 intro pins s σ H R I h
 refine Call_ (ld_blt I hg hm boot_range (PyProof.Rows.callWith_type1 (thn (ha pos pins s σ H _ I h) fun us s1 ⟨vs,H1,I1,r1,q1⟩=>?_) (by rw[hs,hs2]) (by rw[hs2];rfl)))
 obtain⟨i,j,e,⟨q1,q2,q3,q4⟩,q⟩:=q1
 subst e
 cases r1 with
 |cons r rr =>
  cases rr with
  |cons r' rr =>
   cases rr
   obtain⟨t,rfl⟩:=r
   obtain⟨t',rfl⟩:=r'
   exact call_range_2 (range_it I1 q1 q2 q3 q4 q)
noncomputable def tFor(wi:TI)(g:TG)(tb:TS):TS:=fun D σ H=>wi σ H fun J H1=>∃ W:Nat->Nat->St->Hp->Prop,(∃ m,W 0 m σ H1)/\∀ i m σ H,W i m σ H ->
 (J.stop i H/\D.nx σ H)\/(J.go i H/\∃ N:St->Hp->Prop,(∀ σ' H',N σ' H'->∃ m',m'<m/\W (i+1) m' σ' H')/\∀ x H',J.yld i H x H'->g x σ H' fun σ2 H2=>tb { D with nx:=N,ct:=N,bk:=D.nx } σ2 H2)
noncomputable def pinsAt(fp:List Addr)(h:Heap):List (Addr×Obj):=fp.filterMap fun b=>(h.get? b).map fun o=>(b,o)
theorem mem_pinsAt{fp:List Addr}{h:Heap}{b:Addr}{o:Obj}(hb:b∈fp)(e:h.get? b=some o):(b,o)∈pinsAt fp h:=List.mem_filterMap.mpr ⟨b,hb,by rw[e];rfl⟩
theorem of_pinsAt{fp:List Addr}{h:Heap}{p:Addr×Obj}(hp:p∈pinsAt fp h):p.1∈fp/\h.get? p.1=some p.2:=by
 obtain⟨b,hb,e⟩:=List.mem_filterMap.mp hp
 cases q:h.get? b with
 |none=>rw[q]at e;cases e
 |some o =>
  rw[q]at e
  have e':(b,o)=p:=Option.some.inj e
  subst e'
  exact⟨hb,q⟩
theorem Inv.pinned{pins:List (Addr×Obj)}{σ:St}{H:Hp}{s:Shared}{fp:List Addr}(I:Inv X pins σ H s)(hf:∀ b∈fp,FpOk X pins H b)(ho:∀ b∈fp,∃ o,s.heap.get? b=some o/\∀ v,o.data≠.cell v):Inv X (pins++pinsAt fp s.heap) σ H s :=
 I.pins_of fun p hp=>(List.mem_append.mp hp).elim (fun z=>I.pin p (List.mem_append_right _ z)) fun z=>by
  obtain⟨hb,e⟩:=of_pinsAt z
  obtain⟨f0,f1,f2,_⟩:=hf p.1 hb
  obtain⟨o,e',d⟩:=ho p.1 hb
  rw[e]at e';cases e'
  exact⟨e,f0,f1,f2,d⟩
theorem Inv.unpinned{pins pl:List (Addr×Obj)}{σ:St}{H:Hp}{s:Shared}(I:Inv X (pins++pl) σ H s):Inv X pins σ H s:=I.pins_of fun p hp=>I.pin p (List.mem_append_right _ (List.mem_append_left _ hp))
theorem ps_for{iter:Expr}{body:List Stmt}{wi:TI}{g:TG}{tb:TS}{pos:Pos}(hp:PassesOwn (model X.prog X.w) X.A X.env X.xe)(hc:X.calm=true)(hi:PI X tg iter wi)(hg:PG X tg g)(hb:PSs X body tb)
  (hs:∀ x,foldedSetIterable iter X.env x=pure x:=by intro _;rfl):PS X (.For tg iter body [] pos) (tFor wi g tb):=by
 intro pins s σ H D I h
 refine wpAny_For (thn (hi pins s σ H _ I h) fun v s1 h1=>thn h1 fun itv s2 h2=>?_) hs
 obtain⟨it,fp,tn,J,H2,e,I2,T,st2,f2,W,⟨m0,w0⟩,turn⟩:=h2
 subst e
 -- what stays true of the iterator's objects through the loop
 have stat:∀ {H':Hp},(∀ b∈fp,H' b=none)->∀ b∈fp,FpOk X pins H' b:=fun hn b hb=>⟨hn b hb,(f2 b hb).2⟩
 refine codeAny_forLoop_any (fun n s'=>∃ i σ' H',Inv X pins σ' H' s'/\tn i s'.heap/\(∀ b∈fp,H' b=none)/\W i n σ' H') ?_ m0 ⟨0,σ,H2,I2,st2,fun b hb=>(f2 b hb).1,w0⟩
 rintro n s3 ⟨i,σ3,H3,I3,st3,fr3,w3⟩
 rcases turn i n σ3 H3 w3 with⟨stop,qn⟩ |⟨go,N,hN,step⟩
 ·refine wpAny_passesOwn hp (thn (T.done X rfl rfl rfl hc i pins s3 σ3 H3 X.xe I3 (stat fr3) st3 stop) fun r s4 ⟨hr,I4⟩=>?_)
  subst hr
  exact wpAny_execs_nil ⟨σ3,H3,I4,qn⟩
 ·refine wpAny_passesOwn hp (thn (T.item X rfl rfl rfl hc i pins s3 σ3 H3 X.xe I3 (stat fr3) st3 go) fun r s4 ⟨u,hr,h4⟩=>?_)
  subst hr
  refine wpAny_passesOwn hp (thn h4 fun _ s5 ⟨x,H5,I5,r5,y5,st5,fr5⟩=>?_)
  have I5':=I5.pinned (stat fr5) (T.obj _ _ st5)
  refine wpAny_passesOwn hp (thn (hg _ s5 σ3 H5 x u _ I5' r5 (step x H5 y5)) fun _ s6 ⟨σ6,H6,I6,q6⟩=>?_)
  refine wpAny_passesOwn hp (thn (hb _ s6 σ6 H6 _ I6 q6) fun f s7 q7=>?_)
  have again:∀ {σ7:St}{H7:Hp},Inv X (pins++pinsAt fp s5.heap) σ7 H7 s7->N σ7 H7->∃ m,m<n/\∃ i σ' H',Inv X pins σ' H' s7/\tn i s7.heap/\(∀ b∈fp,H' b=none)/\W i m σ' H':=fun {σ7 H7} I7 n7=>by
   obtain⟨m',hm,w7⟩:=hN σ7 H7 n7
   refine⟨m',hm,i+1,σ7,H7,I7.unpinned,T.keep _ _ _ st5 fun b hb o e=>(I7.pin (b,o) (List.mem_append_right _ (List.mem_append_right _ (mem_pinsAt hb e)))).1,fun b hb=>?_,w7⟩
   obtain⟨o,e,d⟩:=T.obj _ _ st5 b hb
   exact(I7.pin (b,o) (List.mem_append_right _ (List.mem_append_right _ (mem_pinsAt hb e)))).2.1
  cases f with
  |next=>obtain⟨σ7,H7,I7,n7⟩:=q7;exact again I7 n7
  |cont=>obtain⟨σ7,H7,I7,n7⟩:=q7;exact again I7 n7
  |brk=>obtain⟨σ7,H7,I7,q7⟩:=q7;exact⟨σ7,H7,I7.unpinned,q7⟩
  |ret v=>obtain⟨x7,σ7,H7,I7,r7,q7⟩:=q7;exact⟨x7,σ7,H7,I7.unpinned,r7,q7⟩
end
theorem for_list{K:PySem.W.Frag}{a:Addr}{xs:List V}{g:TG}{tb:TS}{D:Ends}{σ:St}{H:Hp}(Pv:Nat->St->Hp->Prop)(h0:Pv 0 σ H)(hl:∀ i σ H,i<=xs.length->Pv i σ H->SqL K H a xs)
  (hs:∀ i x σ H,xs[i]?=some x->Pv i σ H->g x σ H fun σ2 H2=>tb { D with nx:=Pv (i+1),ct:=Pv (i+1),bk:=D.nx } σ2 H2) (hd:∀ σ H,Pv xs.length σ H->D.nx σ H) :
  ∃ W:Nat->Nat->St->Hp->Prop,(∃ m,W 0 m σ H)/\∀ i m σ H,W i m σ H ->
   ((Itl K a).stop i H/\D.nx σ H)\/((Itl K a).go i H/\∃ N:St->Hp->Prop,(∀ σ' H',N σ' H'->∃ m',m'<m/\W (i+1) m' σ' H')/\∀ x H',(Itl K a).yld i H x H'->g x σ H' fun σ2 H2=>tb { D with nx:=N,ct:=N,bk:=D.nx } σ2 H2):=by
 refine⟨fun i m σ H=>m=xs.length-i/\i<=xs.length/\Pv i σ H,⟨xs.length,by simp,Nat.zero_le _,h0⟩,?_⟩
 rintro i m σ H ⟨rfl,hi,p⟩
 have q:=hl i σ H hi p
 by_cases hlt:i<xs.length
 ·refine .inr ⟨⟨xs,xs[i],q,by simp[hlt]⟩,Pv (i+1),fun σ' H' p'=>⟨xs.length-(i+1),by omega,rfl,hlt,p'⟩,fun x H' y=>?_⟩
  obtain⟨e,y⟩:=y
  subst e
  exact hs i x σ _ (y xs q) p
 ·have e:i=xs.length:=by lia
  subst e
  exact .inl ⟨⟨xs,q,Nat.le_refl _⟩,hd σ H p⟩
theorem for_tup{K:PySem.W.Frag}{a:Addr}{xs:List V}{g:TG}{tb:TS}{D:Ends}{σ:St}{H:Hp}(Pv:Nat->St->Hp->Prop)(h0:Pv 0 σ H)(hl:∀ i σ H,i<=xs.length->Pv i σ H->SqT K H a xs)
  (hs:∀ i x σ H,xs[i]?=some x->Pv i σ H->g x σ H fun σ2 H2=>tb { D with nx:=Pv (i+1),ct:=Pv (i+1),bk:=D.nx } σ2 H2) (hd:∀ σ H,Pv xs.length σ H->D.nx σ H) :
  ∃ W:Nat->Nat->St->Hp->Prop,(∃ m,W 0 m σ H)/\∀ i m σ H,W i m σ H ->
   ((Itt K a).stop i H/\D.nx σ H)\/((Itt K a).go i H/\∃ N:St->Hp->Prop,(∀ σ' H',N σ' H'->∃ m',m'<m/\W (i+1) m' σ' H')/\∀ x H',(Itt K a).yld i H x H'->g x σ H' fun σ2 H2=>tb { D with nx:=N,ct:=N,bk:=D.nx } σ2 H2):=by
 refine⟨fun i m σ H=>m=xs.length-i/\i<=xs.length/\Pv i σ H,⟨xs.length,by simp,Nat.zero_le _,h0⟩,?_⟩
 rintro i m σ H ⟨rfl,hi,p⟩
 have q:=hl i σ H hi p
 by_cases hlt:i<xs.length
 ·refine .inr ⟨⟨xs,xs[i],q,by simp[hlt]⟩,Pv (i+1),fun σ' H' p'=>⟨xs.length-(i+1),by omega,rfl,hlt,p'⟩,fun x H' y=>?_⟩
  obtain⟨e,y⟩:=y
  subst e
  exact hs i x σ _ (y xs q) p
 ·have e:i=xs.length:=by lia
  subst e
  exact .inl ⟨⟨xs,q,Nat.le_refl _⟩,hd σ H p⟩
theorem for_range{lo:Int}{n:Nat}{g:TG}{tb:TS}{D:Ends}{σ:St}{H:Hp}(Pv:Nat->St->Hp->Prop)(h0:Pv 0 σ H)
  (hs:∀ i σ H,i<n->Pv i σ H->g (.int (lo+i)) σ H fun σ2 H2=>tb { D with nx:=Pv (i+1),ct:=Pv (i+1),bk:=D.nx } σ2 H2) (hd:∀ σ H,Pv n σ H->D.nx σ H) :
  ∃ W:Nat->Nat->St->Hp->Prop,(∃ m,W 0 m σ H)/\∀ i m σ H,W i m σ H ->
   ((Itr lo n).stop i H/\D.nx σ H)\/((Itr lo n).go i H/\∃ N:St->Hp->Prop,(∀ σ' H',N σ' H'->∃ m',m'<m/\W (i+1) m' σ' H')/\∀ x H',(Itr lo n).yld i H x H'->g x σ H' fun σ2 H2=>tb { D with nx:=N,ct:=N,bk:=D.nx } σ2 H2):=by
 refine⟨fun i m σ H=>m=n-i/\i<=n/\Pv i σ H,⟨n,by simp,Nat.zero_le _,h0⟩,?_⟩
 rintro i m σ H ⟨rfl,hi,p⟩
 by_cases hlt:i<n
 ·refine .inr ⟨hlt,Pv (i+1),fun σ' H' p'=>⟨n-(i+1),by omega,rfl,hlt,p'⟩,fun x H' y=>?_⟩
  obtain⟨e,y⟩:=y
  subst e y
  exact hs i σ _ hlt p
 ·have e:i=n:=by lia
  subst e
  exact .inl ⟨Nat.le_refl _,hd σ H p⟩
open PySem PySem.Spec PyProof.Rows
noncomputable abbrev R2:=V->V->Hp->VK->Prop
noncomputable def OpR(X:Cx)(f:Value->Value->Sem Value)(r:R2):Prop :=
 ∀ (pins:List (Addr×Obj)) (s:Shared) (σ:St) (H:Hp) (x y:V) (v u:Value) (Q:VK),Inv X pins σ H s->RelV x v->RelV y u->r x y H Q ->
  wpAny (model X.prog X.w) X.A (f v u) (EP X pins σ Q) X.xe s
noncomputable def CallR(X:Cx)(f:Value)(r:List V->Hp->VK->Prop):Prop :=
 ∀ (pins:List (Addr×Obj)) (s:Shared) (σ:St) (H:Hp) (xs:List V) (us:List Value) (Q:VK),Inv X pins σ H s->Vals xs us->r xs H Q ->
  wpAny (model X.prog X.w) X.A (call f us) (EP X pins σ Q) X.xe s
noncomputable def TruR(X:Cx)(r:V->Hp->(Bool->Hp->Prop)->Prop):Prop :=
 ∀ (pins:List (Addr×Obj)) (s:Shared) (σ:St) (H:Hp) (x:V) (v:Value) (Q:Bool->Hp->Prop),Inv X pins σ H s->RelV x v->r x H Q ->
  wpAny (model X.prog X.w) X.A (truthy v) (TP X pins σ Q) X.xe s
noncomputable def tOp(r:R2)(ta tb:TE):TE:=fun σ H Q=>ta σ H fun x H1=>tb σ H1 fun y H2=>r x y H2 Q
noncomputable def rI(C:Int->Int->Prop)(g:Int->Int->V):R2:=fun x y H Q=>∃ i j,x = .int i/\y = .int j/\C i j/\Q (g i j) H
noncomputable def rI0(g:Int->Int->V):R2:=fun x y H Q=>∃ i j,x = .int i/\y = .int j/\Q (g i j) H
section
variable{X:Cx}{a b c:Expr}{ta tb tc:TE}{pos:Pos}
theorem binT(ha:PE X a ta)(hb:PE X b tb){pins:List (Addr×Obj)}{s:Shared}{σ:St}{H:Hp}{R:V->V->Hp->Prop}(I:Inv X pins σ H s)
  (h:ta σ H fun x H1=>tb σ H1 fun y H2=>R x y H2) {Q:Value->Shared->Prop}{f:Value->Value->Sem Value}
  (hf:∀ v u s2 x y H2,Inv X pins σ H2 s2->RelV x v->RelV y u->R x y H2->wpAny (model X.prog X.w) X.A (f v u) Q X.xe s2) :
  wpAny (model X.prog X.w) X.A (eval a X.env) (fun v s₁=>wpAny (model X.prog X.w) X.A (eval b X.env) (fun u s₂=>wpAny (model X.prog X.w) X.A (f v u) Q X.xe s₂) X.xe s₁) X.xe s:=by
 refine thn (ha pins s σ H _ I h) fun v s1 ⟨x,H1,I1,r1,q1⟩=>?_
 refine thn (hb pins s1 σ H1 _ I1 q1) fun u s2 ⟨y,H2,I2,r2,q2⟩=>?_
 exact hf v u s2 x y H2 I2 r1 r2 q2
theorem pe_op{op:Operator}{r:R2}(ho:OpR X (binaryOp op) r)(ha:PE X a ta)(hb:PE X b tb):PE X (.BinOp a op b pos) (tOp r ta tb):=by
 intro pins s σ H Q I h
 exact wpAny_BinOp (binT ha hb I h fun v u s2 x y H2 I2 rx ry q=>ho pins s2 σ H2 x y v u Q I2 rx ry q)
theorem opI{f:Value->Value->Sem Value}{C:Int->Int->Prop}{g:Int->Int->Int}
  (rule:∀ (i j:Int) (t u:Tok) (s:Shared) (Q:Value->Shared->Prop) (E:Value->Shared->Prop),C i j->Q (.int (g i j) s.toks) { s with toks:=s.toks+1 }->wpAny (model X.prog X.w) X.A (f (.int i t) (.int j u)) Q E s) :
  OpR X f (rI C fun i j=>.int (g i j)):=by
 intro pins s σ H x y v u Q I rx ry h
 obtain⟨i,j,rfl,rfl,hc,q⟩:=h
 obtain⟨t,rfl⟩:=rx
 obtain⟨t',rfl⟩:=ry
 exact rule i j t t' s _ _ hc ⟨.int (g i j),H,I.tok _,⟨_,rfl⟩,q⟩
theorem opI0{f:Value->Value->Sem Value}{g:Int->Int->Int}
  (rule:∀ (i j:Int) (t u:Tok) (s:Shared) (Q:Value->Shared->Prop) (E:Value->Shared->Prop),Q (.int (g i j) s.toks) { s with toks:=s.toks+1 }->wpAny (model X.prog X.w) X.A (f (.int i t) (.int j u)) Q E s) :
  OpR X f (rI0 fun i j=>.int (g i j)):=by
 intro pins s σ H x y v u Q I rx ry h
 obtain⟨i,j,rfl,rfl,q⟩:=h
 obtain⟨t,rfl⟩:=rx
 obtain⟨t',rfl⟩:=ry
 exact rule i j t t' s _ _ ⟨.int (g i j),H,I.tok _,⟨_,rfl⟩,q⟩
theorem opB0{f:Value->Value->Sem Value}{g:Int->Int->Bool}
  (rule:∀ (i j:Int) (t u:Tok) (s:Shared) (Q:Value->Shared->Prop) (E:Value->Shared->Prop),Q (.bool (g i j)) s->wpAny (model X.prog X.w) X.A (f (.int i t) (.int j u)) Q E s) :
  OpR X f (rI0 fun i j=>.bl (g i j)):=by
 intro pins s σ H x y v u Q I rx ry h
 obtain⟨i,j,rfl,rfl,q⟩:=h
 obtain⟨t,rfl⟩:=rx
 obtain⟨t',rfl⟩:=ry
 exact rule i j t t' s _ _ ⟨.bl (g i j),H,I,rfl,q⟩
noncomputable def CDiv(i j:Int):Prop:=0<j/\j<1073741824
noncomputable def CPow(i j:Int):Prop:=0<=j/\j<=1000000/\i.natAbs<2 ^ 64
noncomputable def CMul(i j:Int):Prop:=(-(2 ^ 64)<i/\i<2 ^ 64)\/(-(2 ^ 64)<j/\j<2 ^ 64)
theorem CMul.ok{i j:Int}(h:CMul i j):IntMulOk i j:=by
 rcases h with⟨h1,h2⟩ |⟨h1,h2⟩
 ·exact .of_left (intBits_le_64 h1 h2)
 ·exact .of_right (intBits_le_64 h1 h2)
theorem op_add:OpR X (binaryOp .Add) (rI0 fun i j=>.int (i+j)):=opI0 fun _ _ _ _ _ _ _ q=>add_int q
theorem op_sub:OpR X (binaryOp .Sub) (rI0 fun i j=>.int (i-j)):=opI0 fun _ _ _ _ _ _ _ q=>sub_int q
theorem op_mul:OpR X (binaryOp .Mult) (rI CMul fun i j=>.int (i * j)):=opI fun _ _ _ _ _ _ _ hc q=>mul_int q hc.ok
theorem op_fdiv:OpR X (binaryOp .FloorDiv) (rI CDiv fun i j=>.int (i / j)):=opI fun i j _ _ _ _ _ hc q=>by
 have h1:(0:Int)<j:=hc.1
 have h2:j<1073741824:=hc.2
 exact floordiv_int (by lia) (by rw[Int.fdiv_eq_ediv_of_nonneg i (by lia)];exact q) (.inl (PyProof.noPylong_small (by omega)))
theorem op_mod:OpR X (binaryOp .Mod) (rI (fun _ j=>0<j) fun i j=>.int (i % j)):=opI fun i j _ _ _ _ _ hc q=>by
 have h1:(0:Int)<j:=hc
 exact mod_int' (by lia) (by rw[Int.fmod_eq_emod_of_nonneg i (by lia)];exact q)
theorem op_pow:OpR X (binaryOp .Pow) (rI CPow fun i j=>.int (i ^ j.toNat)):=opI fun _ _ _ _ _ _ _ hc q=>pow_int_small hc.1 hc.2.1 hc.2.2 q
end
noncomputable def scal:V->V->Bool
 | .non,.non=>true | .non,.int _=>true | .int _,.non=>true | .non,.bl _=>true | .bl _,.non=>true | .non,.str _=>true | .str _,.non=>true
 | .int _,.int _=>true | .bl _,.bl _=>true | .str _,.str _=>true | .byt _,.byt _=>true
 | .int _,.str _=>true | .str _,.int _=>true | .bl _,.str _=>true | .str _,.bl _=>true
 | _,_=>false
noncomputable def rEq:R2:=fun x y H Q=>scal x y=true/\Q (.bl (decide (x=y))) H
noncomputable def rNe:R2:=fun x y H Q=>scal x y=true/\Q (.bl (!decide (x=y))) H
theorem dec_int{i j:Int}:decide (V.int i=V.int j)=(i == j):=by
 rw[Bool.eq_iff_iff]
 simp
theorem dec_bl{i j:Bool}:decide (V.bl i=V.bl j)=(i == j):=by
 rw[Bool.eq_iff_iff]
 simp
theorem dec_str{i j:Str}:decide (V.str i=V.str j)=(i == j):=by
 rw[Bool.eq_iff_iff]
 simp
theorem dec_byt{i j:Array UInt8}:decide (V.byt i=V.byt j)=(i.toList == j.toList):=by
 rw[Bool.eq_iff_iff]
 cases i
 cases j
 simp
section
variable{X:Cx}{a b c:Expr}{ta tb tc:TE}{pos:Pos}
theorem fin_bl{pins:List (Addr×Obj)}{σ:St}{H:Hp}{s:Shared}{Q:VK}{k k':Bool}(I:Inv X pins σ H s)(q:Q (.bl k) H)(e:k=k'):EP X pins σ Q (.bool k') s:=by
 subst e
 exact⟨.bl k,H,I,rfl,q⟩
theorem op_eq:OpR X (compareOp .Eq) rEq:=by
 intro pins s σ H x y v u Q I rx ry h
 obtain⟨hs,q⟩:=h
 cases x with
 |non =>
  cases rx
  cases y with
  |non=>cases ry;exact PySem.EqNone.eq_none_none (fin_bl I q (by simp))
  |bl j=>cases ry;exact PySem.EqNone.eq_none_bool (fin_bl I q (by simp))
  |int j=>obtain⟨t',rfl⟩:=ry;exact PySem.EqNone.eq_none_int (fin_bl I q (by simp))
  |str j=>obtain⟨t',rfl⟩:=ry;exact PySem.EqNone.eq_none_str (fin_bl I q (by simp))
  | _=>exact absurd (show false=true from hs) Bool.false_ne_true
 |bl i =>
  cases rx
  cases y with
  |non=>cases ry;exact PySem.EqNone.eq_bool_none (fin_bl I q (by simp))
  |bl j=>cases ry;exact eq_bool (fin_bl I q dec_bl)
  |str j=>obtain⟨t',rfl⟩:=ry;exact PySem.EqMixed.eq_bool_str (fin_bl I q (by simp))
  | _=>exact absurd (show false=true from hs) Bool.false_ne_true
 |int i =>
  obtain⟨t,rfl⟩:=rx
  cases y with
  |non=>cases ry;exact PySem.EqNone.eq_int_none (fin_bl I q (by simp))
  |int j=>obtain⟨t',rfl⟩:=ry;exact eq_int (fin_bl I q dec_int)
  |str j=>obtain⟨t',rfl⟩:=ry;exact PySem.EqMixed.eq_int_str (fin_bl I q (by simp))
  | _=>exact absurd (show false=true from hs) Bool.false_ne_true
 |str i =>
  obtain⟨t,rfl⟩:=rx
  cases y with
  |non=>cases ry;exact PySem.EqNone.eq_str_none (fin_bl I q (by simp))
  |bl j=>cases ry;exact PySem.EqMixed.eq_str_bool (fin_bl I q (by simp))
  |int j=>obtain⟨t',rfl⟩:=ry;exact PySem.EqMixed.eq_str_int (fin_bl I q (by simp))
  |str j=>obtain⟨t',rfl⟩:=ry;exact eq_str (fin_bl I q dec_str)
  | _=>exact absurd (show false=true from hs) Bool.false_ne_true
 |byt i =>
  obtain⟨t,rfl⟩:=rx
  cases y with
  |byt j=>obtain⟨t',rfl⟩:=ry;exact PySem.W.eq_bytes (fin_bl I q dec_byt)
  | _=>exact absurd (show false=true from hs) Bool.false_ne_true
 | _=>cases y <;> exact absurd (show false=true from hs) Bool.false_ne_true
theorem op_ne:OpR X (compareOp .NotEq) rNe:=by
 intro pins s σ H x y v u Q I rx ry h
 obtain⟨hs,q⟩:=h
 cases x with
 |non =>
  cases rx
  cases y with
  |non=>cases ry;exact PySem.EqNone.ne_none_none (fin_bl I q (by simp))
  |bl j=>cases ry;exact PySem.EqNone.ne_none_bool (fin_bl I q (by simp))
  |int j=>obtain⟨t',rfl⟩:=ry;exact PySem.EqNone.ne_none_int (fin_bl I q (by simp))
  |str j=>obtain⟨t',rfl⟩:=ry;exact PySem.EqNone.ne_none_str (fin_bl I q (by simp))
  | _=>exact absurd (show false=true from hs) Bool.false_ne_true
 |bl i =>
  cases rx
  cases y with
  |non=>cases ry;exact PySem.EqNone.ne_bool_none (fin_bl I q (by simp))
  |bl j=>cases ry;exact ne_bool (fin_bl I q (congrArg not dec_bl))
  |str j=>obtain⟨t',rfl⟩:=ry;exact PySem.EqMixed.ne_bool_str (fin_bl I q (by simp))
  | _=>exact absurd (show false=true from hs) Bool.false_ne_true
 |int i =>
  obtain⟨t,rfl⟩:=rx
  cases y with
  |non=>cases ry;exact PySem.EqNone.ne_int_none (fin_bl I q (by simp))
  |int j=>obtain⟨t',rfl⟩:=ry;exact ne_int (fin_bl I q (congrArg not dec_int))
  |str j=>obtain⟨t',rfl⟩:=ry;exact PySem.EqMixed.ne_int_str (fin_bl I q (by simp))
  | _=>exact absurd (show false=true from hs) Bool.false_ne_true
 |str i =>
  obtain⟨t,rfl⟩:=rx
  cases y with
  |non=>cases ry;exact PySem.EqNone.ne_str_none (fin_bl I q (by simp))
  |bl j=>cases ry;exact PySem.EqMixed.ne_str_bool (fin_bl I q (by simp))
  |int j=>obtain⟨t',rfl⟩:=ry;exact PySem.EqMixed.ne_str_int (fin_bl I q (by simp))
  |str j=>obtain⟨t',rfl⟩:=ry;exact ne_str (fin_bl I q (congrArg not dec_str))
  | _=>exact absurd (show false=true from hs) Bool.false_ne_true
 |byt i =>
  obtain⟨t,rfl⟩:=rx
  cases y with
  |byt j=>obtain⟨t',rfl⟩:=ry;exact PySem.W.ne_bytes (fin_bl I q (congrArg not dec_byt))
  | _=>exact absurd (show false=true from hs) Bool.false_ne_true
 | _=>cases y <;> exact absurd (show false=true from hs) Bool.false_ne_true
theorem op_lt:OpR X (compareOp .Lt) (rI0 fun i j=>.bl (decide (i<j))):=opB0 fun _ _ _ _ _ _ _ q=>lt_int q
theorem op_gt:OpR X (compareOp .Gt) (rI0 fun i j=>.bl (decide (j<i))):=opB0 fun _ _ _ _ _ _ _ q=>gt_int q
theorem op_ge:OpR X (compareOp .GtE) (rI0 fun i j=>.bl (decide (j<=i))):=opB0 fun _ _ _ _ _ _ _ q=>ge_int q
theorem op_isN:OpR X (compareOp .Is) (fun x y H Q=>y = .non/\Q (.bl (decide (x = .non))) H):=by
 intro pins s σ H x y v u Q I rx ry h
 obtain⟨rfl,q⟩:=h
 cases ry
 refine is_none_gen (fin_bl I q ?_)
 cases x <;> first
  |(cases rx;rfl)
  |(obtain⟨t,rfl⟩:=rx;rfl)
theorem nomark(b:Expr){op:CmpOp}(h:op≠.In:=by decide)(h2:op≠.NotIn:=by decide):behindInMarks op b=false:=by
 have e1:(op == CmpOp.In)=false:=by cases op <;> first | rfl | exact absurd rfl h
 have e2:(op == CmpOp.NotIn)=false:=by cases op <;> first | rfl | exact absurd rfl h2
 cases b <;> simp[behindInMarks,e1,e2]
theorem pe_cmpR{op:CmpOp}{r:R2}(ho:OpR X (compareOp op) r)(ha:PE X a ta)(hb:PE X b tb)(hm:behindInMarks op b=false):PE X (.Compare a [op] [b] pos) (tOp r ta tb):=by
 intro pins s σ H Q I h
 exact wpAny_Compare1 (binT ha hb I h fun v u s2 x y H2 I2 rx ry q=>ho pins s2 σ H2 x y v u Q I2 rx ry q) hm
noncomputable def tTest(t:TE):TT:=fun σ H Q=>t σ H fun x H'=>∃ k,x = .bl k/\Q k H'
theorem pt_cmpR{op:CmpOp}{r:R2}(ho:OpR X (compareOp op) r)(ha:PE X a ta)(hb:PE X b tb)(hm:behindInMarks op b=false):PT X (.Compare a [op] [b] pos) (tTest (tOp r ta tb)):=by
 intro pins s σ H Q I h
 refine wpAny_isTrue_Compare1 (thn (ha pins s σ H _ I h) fun v s1 ⟨x,H1,I1,r1,q1⟩=>thn (hb pins s1 σ H1 _ I1 q1) fun u s2 ⟨y,H2,I2,r2,q2⟩ =>
  thn (ho pins s2 σ H2 x y v u _ I2 r1 r2 q2) fun c s3 ⟨z,H3,I3,r3,k,e,q3⟩=>?_) hm
 subst e
 cases r3
 exact wpAny_truthy_bool ⟨H3,I3,q3⟩
noncomputable def TruV(K:PySem.W.Frag)(x:V)(H:Hp)(k:Bool):Prop :=
 match x with
 | .non=>k=false
 | .bl b=>k=b
 | .int i=>k=(i != 0)
 | .str y=>y.length<=sizeLine/\k=((y.length:Int) != 0)
 | .byt y=>y.size<=sizeLine/\k=((y.size:Int) != 0)
 | .ref p=>(∃ xs,SqL K H p xs/\k = !xs.isEmpty)\/(∃ xs,SqT K H p xs/\k = !xs.isEmpty)\/∃ kvs,H p=some (.dK kvs)/\k = !kvs.isEmpty
 | _=>False
theorem isEmpty_kv{κ:Type}{kvs:List (κ×V)}{vs:List (κ×Value)}(r:KV kvs vs):(!vs.isEmpty) = !kvs.isEmpty:=by
 cases r <;> rfl
theorem isEmpty_of{xs:List V}{its:List Value}(r:Vals xs its):(!its.toArray.isEmpty) = !xs.isEmpty:=by
 cases r <;> simp
theorem line63:(sizeLine:Nat)<2 ^ 63:=by rw[sizeLine_eq];decide
theorem tru_ok:TruR X (fun x H Q=>∃ k,TruV X.K x H k/\Q k H):=by
 intro pins s σ H x v Q I rx h
 obtain⟨k,e,q⟩:=h
 have hl:=line63
 have hs:sizeLine=16777216:=sizeLine_eq
 cases x with
 |non =>
  cases rx
  have e':k=false:=e
  subst e'
  exact truthy_none ⟨H,I,q⟩
 |bl b =>
  cases rx
  have e':k=b:=e
  subst e'
  exact wpAny_truthy_bool ⟨H,I,q⟩
 |int i =>
  obtain⟨t,rfl⟩:=rx
  have e':k=(i != 0):=e
  subst e'
  exact PySem.P.truthy_int ⟨H,I,q⟩
 |str y =>
  obtain⟨t,rfl⟩:=rx
  obtain⟨hy,e'⟩:y.length<=sizeLine/\k=((y.length:Int) != 0):=e
  subst e'
  exact PySem.P.truthy_str (by lia) ⟨H,I.tok _,q⟩
 |byt y =>
  obtain⟨t,rfl⟩:=rx
  obtain⟨hy,e'⟩:y.size<=sizeLine/\k=((y.size:Int) != 0):=e
  subst e'
  exact PySem.W.truthy_bytes (by lia) ⟨H,I.tok _,q⟩
 |ref p =>
  cases rx
  have e':(∃ xs,SqL X.K H p xs/\k = !xs.isEmpty)\/(∃ xs,SqT X.K H p xs/\k = !xs.isEmpty)\/∃ kvs,H p=some (.dK kvs)/\k = !kvs.isEmpty:=e
  rcases e' with⟨xs,hx,e'⟩ |⟨xs,hx,e'⟩ |⟨kvs,hx,e'⟩
  ·subst e'
   obtain⟨its,r,pl,hz⟩:=I.list hx
   have hlen:=r.length
   exact wpAny_truthy_list pl.isList (by simp only[List.size_toArray];lia) ⟨H,I.tok _,by rw[isEmpty_of r];exact q⟩
  ·subst e'
   obtain⟨its,r,pl,hz⟩:=I.tuple hx
   have hlen:=r.length
   exact truthy_tuple pl (by simp only[List.size_toArray];lia) ⟨H,I.tok _,by rw[isEmpty_of r];exact q⟩
  ·subst e'
   obtain⟨hz,hS,vs,r,m⟩:kvs.length<=sizeLine/\(p == sysModules)=false/\∃ vs,KV kvs vs/\s.heap.DictOf (mixKind X.prog X.w) p vs:=I.hok p _ hx
   have hlen:kvs.length=vs.length:=Paired.length r
   exact wpAny_truthy_dict hS m (by lia) ⟨H,I.tok _,by rw[isEmpty_kv r];exact q⟩
 | _=>exact(show False from e).elim
theorem pt_truth(ha:PE X a ta)(he:∀ whole,isTrue a X.env whole=(do let v <- whole;standAt a.pos;holding [v] (truthy v))) :
  PT X a (fun σ H Q=>ta σ H fun x H'=>∃ k,TruV X.K x H' k/\Q k H'):=by
 intro pins s σ H Q I h
 exact isTrue_plain (thn (ha pins s σ H _ I h) fun v s1 ⟨x,H1,I1,r1,q1⟩=>tru_ok pins s1 σ H1 x v Q I1 r1 q1) (he _)
theorem vals1{x:V}{us:List Value}(r:Vals [x] us):∃ u,us=[u]/\RelV x u:=by
 cases r with
 |cons r1 r2=>cases r2;exact⟨_,rfl,r1⟩
theorem vals2{x y:V}{us:List Value}(r:Vals [x,y] us):∃ u w',us=[u,w']/\RelV x u/\RelV y w':=by
 cases r with
 |cons r1 r2 =>
  cases r2 with
  |cons r3 r4=>cases r4;exact⟨_,_,rfl,r1,r3⟩
theorem call_abs:CallR X (.builtin "abs") (fun xs H Q=>∃ i,xs=[.int i]/\Q (.int (if i<0 then -i else i)) H):=by
 intro pins s σ H xs us Q I r h
 obtain⟨i,rfl,q⟩:=h
 obtain⟨u,rfl,t,rfl⟩:=vals1 r
 exact call_abs_int fun u tk=>⟨.int (if i<0 then -i else i),H,I.tok _,⟨_,rfl⟩,q⟩
theorem call_max2(hc:X.calm=true):CallR X (.builtin "max") (fun xs H Q=>∃ i j,xs=[.int i,.int j]/\Q (.int (if j > i then j else i)) H):=by
 intro pins s σ H xs us Q I r h
 obtain⟨i,j,rfl,q⟩:=h
 obtain⟨u,w',rfl,⟨t,rfl⟩,⟨t',rfl⟩⟩:=vals2 r
 refine max_two_ints (I.ok.hd hc) fun h' tk k=>⟨_,H,I.kept k,?_,q⟩
 by_cases hj:j > i
 ·rw[if_pos hj,if_pos hj];exact⟨_,rfl⟩
 ·rw[if_neg hj,if_neg hj];exact⟨_,rfl⟩
theorem call_min2(hc:X.calm=true):CallR X (.builtin "min") (fun xs H Q=>∃ i j,xs=[.int i,.int j]/\Q (.int (if j<i then j else i)) H):=by
 intro pins s σ H xs us Q I r h
 obtain⟨i,j,rfl,q⟩:=h
 obtain⟨u,w',rfl,⟨t,rfl⟩,⟨t',rfl⟩⟩:=vals2 r
 refine min_two_ints (I.ok.hd hc) fun h' tk k=>⟨_,H,I.kept k,?_,q⟩
 by_cases hj:j<i
 ·rw[if_pos hj,if_pos hj];exact⟨_,rfl⟩
 ·rw[if_neg hj,if_neg hj];exact⟨_,rfl⟩
theorem call_int1:CallR X (.type "int") (fun xs H Q=>(∃ i,xs=[.int i]/\Q (.int i) H)\/∃ k,xs=[.bl k]/\Q (.int (if k then 1 else 0)) H):=by
 intro pins s σ H xs us Q I r h
 rcases h with⟨i,rfl,q⟩ |⟨k,rfl,q⟩
 ·obtain⟨u,rfl,t,rfl⟩:=vals1 r
  exact call_int_int ⟨.int i,H,I,⟨_,rfl⟩,q⟩
 ·obtain⟨u,rfl,r1⟩:=vals1 r
  cases r1
  exact call_int_bool ⟨.int (if k then 1 else 0),H,I.tok _,⟨_,rfl⟩,q⟩
end
open PySem PySem.Spec PyProof.Rows
structure ObjM(h:Heap)(x dx C:Addr)(mA:Str->Option Value):Prop where
 obj:h.get? x=some (PySem.W.instObj C dx)
 ns:h.Ns1 dx mA
 ne:dx≠x
theorem lookIn_ns{h:Heap}{dx:Addr}{mA:Str->Option Value}(n:h.Ns1 dx mA):∃ od,h.get? dx=some od/\∀ name,PySem.W.lookIn name od=some (mA name):=by
 obtain⟨o,es,ep,ho,hd,hk,_,hm⟩:=n
 refine⟨o,ho,fun name=>?_⟩
 have e:=hm name
 unfold nsFind findBy at e
 rw[<- Array.find?_toList]at e
 unfold PySem.W.lookIn
 rw[hd]
 dsimp only
 split
 ·rename_i y q
  rw[q]at e
  exact congrArg some e
 ·rename_i q
  rw[q]at e
  have a:es.toList.any (·.refKey)=false:=by
   rw[List.any_eq_false]
   intro y hy
   obtain⟨z,t,hkey⟩:=hk y (Array.mem_toList_iff.mp hy)
   simp[DictEntry.refKey,hkey]
  have a':¬ es.toList.any (·.refKey)=true:=by rw[a];exact Bool.false_ne_true
  rw[if_neg a']
  exact congrArg some e
theorem ObjM.look{h:Heap}{x dx C:Addr}{mA:Str->Option Value}(I:ObjM h x dx C mA):∃ od,PySem.W.InstAt h x (PySem.W.instObj C dx) C (some od)/\∀ name,PySem.W.lookIn name od=some (mA name) :=
 let ⟨od,ho,hl⟩:=lookIn_ns I.ns
 ⟨od,⟨I.obj,rfl,rfl,ho⟩,hl⟩
theorem RelO.some_of{v:V}{o:Option Value}(r:RelO (some v) o):∃ u,o=some u/\RelV v u:=by
 cases o with
 |none=>exact(show False from r).elim
 |some u=>exact⟨u,rfl,r⟩
section
variable{P:Program}{w:World}{H H':Hp}{h h':Heap}{a C dx:Addr}{fs fs':List (Str×V)}
theorem ins_get(hok:HOk P w H h)(e:H a=some (.ins C dx fs)):∃ mA,ObjM h a dx C mA/\(∀ f,RelO (fs.lookup f) (mA f))/\PySem.Within mA (fs.map (·.1))/\fs.length<=1000/\H dx=some (.own a):=by
 obtain⟨d,z,ne,ob,mA,n,r,q⟩:=(show ObjOk P w H h a (.ins C dx fs)from hok a _ e)
 exact⟨mA,⟨ob,n,ne⟩,r,q,z,d⟩
end
structure Cls(K:PySem.W.Frag)(C:Addr):Prop where
 pg:PySem.W.plainGet K C Str.empty=true
 hd:PySem.W.hasDictIn K C=true
 po:PySem.W.plainOver K C=true
 sa:PySem.W.findIn K (.ref C) "__setattr__" = some (some (.builtin "object.__setattr__"))
theorem Cls.get{K:PySem.W.Frag}{C:Addr}(c:Cls K C)(f:Str):PySem.W.plainGet K C f=true:=c.pg
section
variable{X:Cx}{pins:List (Addr×Obj)}{σ:St}{H:Hp}{s:Shared}{A:Around}{E:Value->Shared->Prop}{Q:Value->Shared->Prop}{c:Value}{b:Bool}
inductive TyOf(K:PySem.W.Frag)(H:Hp):V->Value->Prop where
 |non:TyOf K H .non (.type "NoneType")
 |bl (x:Bool):TyOf K H (.bl x) (.type "bool")
 |int (i:Int):TyOf K H (.int i) (.type "int")
 |str (x:Str):TyOf K H (.str x) (.type "str")
 |flt (x:UInt64):TyOf K H (.flt x) (.type "float")
 |lst {a:Addr}{xs:List V} (e:H a=some (.lst xs)):TyOf K H (.ref a) (.type "list")
 |frz {a:Addr}{o:Obj}{xs:List V} (e:H a=some (.frz o (.lst xs))):TyOf K H (.ref a) (.type "list")
 |tup {a:Addr}{xs:List V} (e:H a=some (.tup xs)):TyOf K H (.ref a) (.type "tuple")
 |dK {a:Addr}{kvs:List (Key×V)} (e:H a=some (.dK kvs)):TyOf K H (.ref a) (.type "dict")
 |dT {a:Addr}{kvs:List (List Key×V)} (e:H a=some (.dT kvs)):TyOf K H (.ref a) (.type "dict")
 |ins {a C dx:Addr}{fs:List (Str×V)} (e:H a=some (.ins C dx fs)) (cl:Cls K C) (ha:PySem.W.findIn K (.ref C) "__class__" = some (some (.builtin "object.__class__")))
   (hn:PySem.W.specialIn K (.builtin "object.__class__") "__get__" = some (some (.builtin "getset_descriptor.__get__"))) (htk:PySem.W.takesIn K (.builtin "object.__class__")=some true)
   (hm:PySem.W.mroIn K C (.type "object")=some true):TyOf K H (.ref a) (.ref C)
theorem isinst_ok{x:V}{u t:Value}(I:Inv X pins σ H s)(rx:RelV x u)(ty:TyOf X.K H x t)(e:PySem.W.kitOne X.K t c=some b)(h:∀ tk,Q (.bool b) { s with toks:=tk }) :
  wpAny (model X.prog X.w) A (call (.builtin "isinstance") [u,c]) Q E s:=by
 cases ty with
 |non=>cases(show u=Value.none from rx);exact PySem.W.kia_one PySem.W.kitx_none I.kIn True.intro e (fun z=>nomatch z) h
 |bl y=>cases(show u=Value.bool y from rx);exact PySem.W.kia_one PySem.W.kitx_bool I.kIn True.intro e (fun z=>nomatch z) h
 |int i=>obtain⟨t,q⟩:=(show ∃ t,u=Value.int i t from rx);cases q;exact PySem.W.kia_one PySem.W.kitx_int I.kIn True.intro e (fun z=>nomatch z) h
 |str y=>obtain⟨t,q⟩:=(show ∃ t,u=Value.str y t from rx);cases q;exact PySem.W.kia_one PySem.W.kitx_str I.kIn True.intro e (fun z=>nomatch z) h
 |flt y=>obtain⟨t,q⟩:=(show ∃ t,u=Value.float y t from rx);cases q;exact PySem.W.kia_one PySem.W.kitx_float I.kIn True.intro e (fun z=>nomatch z) h
 | @lst a xs ea =>
  cases(show u=Value.ref a from rx)
  obtain⟨_,_,n,_,h1⟩:=(show ObjOk X.prog X.w H s.heap a (.lst xs)from I.hok a _ ea)
  exact PySem.W.kia_one PySem.W.kitx_list I.kIn ⟨_,h1,rfl⟩ e (fun z=>nomatch z) h
 | @frz a ob xs ea =>
  cases(show u=Value.ref a from rx)
  obtain⟨_,_,_,n,_,h1⟩:=(show ObjOk X.prog X.w H s.heap a (.frz ob (.lst xs))from I.hok a _ ea)
  exact PySem.W.kia_one PySem.W.kitx_list I.kIn ⟨_,h1,rfl⟩ e (fun z=>nomatch z) h
 | @tup a xs ea =>
  cases(show u=Value.ref a from rx)
  obtain⟨_,_,_,p⟩:=(show ObjOk X.prog X.w H s.heap a (.tup xs)from I.hok a _ ea)
  obtain⟨o,h1,h2,_⟩:=p
  exact PySem.W.kia_one PySem.W.kitx_tuple I.kIn ⟨o,h1,h2⟩ e (fun z=>nomatch z) h
 | @dK a kvs ea =>
  cases(show u=Value.ref a from rx)
  obtain⟨_,_,vs,_,p⟩:=(show ObjOk X.prog X.w H s.heap a (.dK kvs)from I.hok a _ ea)
  obtain⟨o,es,ep,h1,h2,_⟩:=p
  exact PySem.W.kia_one PySem.W.kitx_dict I.kIn ⟨o,h1,h2.1⟩ e (fun z=>nomatch z) h
 | @dT a kvs ea =>
  cases(show u=Value.ref a from rx)
  obtain⟨_,_,xs,_,o,es,ep,h1,h2,_⟩:=(show ObjOk X.prog X.w H s.heap a (.dT kvs)from I.hok a _ ea)
  exact PySem.W.kia_one PySem.W.kitx_dict I.kIn ⟨o,h1,h2.1⟩ e (fun z=>nomatch z) h
 | @ins a C dx fs ea cl ha hn htk hm =>
  cases(show u=Value.ref a from rx)
  obtain⟨mA,O,_⟩:=ins_get I.hok ea
  obtain⟨od,J,_⟩:=O.look
  exact PySem.W.kia_one (PySem.W.kitx_own (cl.get _) cl.hd ha hn htk hm) I.kIn J e (fun z=>nomatch z) h
end
open PySem PySem.Spec PyProof.Rows
theorem deep_gd{A:Around}{env:Env}(h:A.guards=some []):(A.deeper env).guards=some []:=by
 first | exact h | simp[Around.deeper,h]
structure Room(k:Nat)(A:Around):Prop where
 hd:A.handled=none
 dp:A.depth+3 * k+5<recursionLimit
 un:A.units+16 * k+200<cLine
 gd:A.guards=some []
theorem Room.mono{j k:Nat}{A:Around}(r:Room k A)(h:j<=k):Room j A:=⟨r.hd,by have:=r.dp;lia,by have:=r.un;lia,r.gd⟩
theorem Room.deeper{k:Nat}{A:Around}(r:Room (k+1) A)(env:Env):Room k (A.deeper env) :=
 ⟨r.hd,by have:=r.dp;show A.depth+1+3 * k+5<_;lia,by have:=r.un;show A.units+3+16 * k+200<_;lia,deep_gd r.gd⟩
theorem Room.depth{k:Nat}{A:Around}(r:Room k A):A.depth<recursionLimit:=by have:=r.dp;lia
theorem Room.units{k:Nat}{A:Around}(r:Room k A):A.units+64<cLine:=by have:=r.un;lia
noncomputable def tNil:TA:=fun _ H Q=>Q [] H
noncomputable def tCons(ta:TE)(tr:TA):TA:=fun σ H Q=>ta σ H fun x H1=>tr σ H1 fun xs H2=>Q (x :: xs) H2
section
variable{X:Cx}{e:Expr}{es:List Expr}{te:TE}{t:TA}{pos:Pos}
theorem pa_nil:PA X [] tNil:=fun _ _ _ _ H Q I h=>Calls.spliced_nil ⟨[],H,I,.nil,h⟩
theorem pa_cons(ha:PE X e te)(hr:PA X es t)(hs:starEach (e :: es) X.env=(false,eval e X.env) :: starEach es X.env:=by rfl):PA X (e :: es) (tCons te t):=by
 intro pos pins s σ H Q I h
 rw[hs]
 show wpAny _ _ (spliced ((false,eval e X.env) :: backTo pos (starEach es X.env))) _ _ s
 refine Calls.spliced_cons (thn (ha pins s σ H _ I h) fun u s1 ⟨x,H1,I1,r1,q1⟩=>?_)
 exact thn (hr pos pins s1 σ H1 _ I1 q1) fun us s2 ⟨xs,H2,I2,r2,q2⟩=>⟨x :: xs,H2,I2,.cons r1 r2,q2⟩
noncomputable def tTup(t:TA):TE:=fun σ H Q=>t σ H fun xs H1=>xs.length<=sizeLine/\∀ p,H1 p=none->Q (.ref p) (upd H1 p (.tup xs))
noncomputable def tLst(t:TA):TE:=fun σ H Q=>t σ H fun xs H1=>xs.length<=sizeLine/\∀ p,H1 p=none->Q (.ref p) (upd H1 p (.lst xs))
theorem pe_tup{x1}(h:PA X es t):PE X (.Tuple es x1 pos) (tTup t):=by
 intro pins s σ H Q I hq
 refine wpAny_Tuple_spliced (thn (h pos pins s σ H _ I hq) fun us s1 ⟨xs,H1,I1,r,z,q⟩=>⟨by rw[<- r.length];exact z,?_⟩)
 have hf:H1 s1.heap.objs.size=none:=I1.hok.fresh (Nat.le_refl _)
 refine⟨.ref s1.heap.objs.size,upd H1 s1.heap.objs.size (.tup xs),I1.laid (t':=s1.toks) (fun b u e=>Heap.get?_push_of_some _ e) (Nat.le_refl _) ?_,rfl,q _ hf⟩
 exact⟨z,us,r,⟨_,Heap.get?_push_size _ rfl,rfl,_,rfl⟩⟩
theorem pe_lst(h:PA X es t):PE X (.List es pos) (tLst t):=by
 intro pins s σ H Q I hq
 refine wpAny_List_spliced (thn (h pos pins s σ H _ I hq) fun us s1 ⟨xs,H1,I1,r,z,q⟩=>⟨by rw[<- r.length];exact z,?_⟩)
 have hf:H1 s1.heap.objs.size=none:=I1.hok.fresh (Nat.le_refl _)
 refine⟨.ref s1.heap.objs.size,upd H1 s1.heap.objs.size (.lst xs),I1.laid (t':=s1.toks) (fun b u e=>Heap.get?_push_of_some _ e) (Nat.le_refl _) ?_,rfl,q _ hf⟩
 exact⟨z,us,0,r,Heap.get?_push_size _ rfl⟩
end
noncomputable abbrev Sp:=List V->Hp->VK->XK->Prop
noncomputable abbrev CXT:=List Env->Hp->Shared->XK->Value->Shared->Prop
structure Env0(P:Program)(w:World)(K:PySem.W.Frag)(mg:Str->Option Value)(base:Heap)(A:Around)(outer:List Env)(s:Shared)(H:Hp):Prop where
 frames:A.frames=some outer
 mod:Mod K mg base
 bs:∀ b o,base.get? b=some o->s.heap.get? b=some o/\H b=none
 bsz:base.objs.size<=s.heap.objs.size
 funs:s.heap.FunFrames base outer
 frf:∀ b∈frs outer,H b=none
 hok:HOk P w H s.heap
 bare:AllBare s.gens
noncomputable def CE(outer:List Env)(P:Program)(w:World)(H:Hp)(s:Shared)(Q:VK)(u:Value)(s':Shared):Prop :=
 ∃ v H',s'.os=s.os/\AllBare s'.gens/\Un (frs outer) [] H H' s.heap s'.heap/\HOk P w H' s'.heap/\RelV v u/\Q v H'
noncomputable def CR(CX:CXT)(outer:List Env)(P:Program)(w:World)(H:Hp)(s:Shared)(Q:VK)(E:XK)(r:Result)(s':Shared):Prop :=
 match r with
 | .ok (.ret u)=>CE outer P w H s Q u s'
 | .ok _=>False
 | .error e=>CX outer H s E e s'
structure FnOk(P:Program)(w:World)(K:PySem.W.Frag)(mg:Str->Option Value)(base:Heap)(CX:CXT)(k:Nat)(f:Addr)(fd:FuncData)(ps:List Str)(sp:Sp):Prop where
 len:∀ vs H Q E,sp vs H Q E->vs.length=ps.length
 run:∀ (A:Around) (outer:List Env) (s:Shared) (H:Hp) (args:Args) (us:List Value) (vs:List V) (Q:VK) (E:XK),Room k A->Env0 P w K mg base A outer s H->BindsTo s fd args (ps.zip us)->Vals vs us->sp vs H Q E ->
  codeAny (model P w) A (.call (.ref f) args) (CR CX outer P w H s Q E) s
section
variable{X:Cx}{pins:List (Addr×Obj)}{σ:St}{H:Hp}{s s':Shared}
theorem Inv.env0(I:Inv X pins σ H s):Env0 X.prog X.w X.K X.mg X.base X.A X.stack s H :=
 ⟨I.ok.frames,I.ok.mod,I.bs,Nat.le_trans I.ok.bsz I.sz,I.stack,I.stkFree,I.hok,I.bare⟩
theorem Inv.after{Q:VK}{u:Value}(I:Inv X pins σ H s)(h:CE X.stack X.prog X.w H s Q u s'):EP X pins σ Q u s':=by
 obtain⟨v,H',os,bare,un,hok,r,q⟩:=h
 obtain⟨hh,g,d,t,os'⟩:=s'
 obtain rfl:os'=s.os:=os
 exact⟨v,H',I.call (h':=hh) (g':=g) (d':=d) (t':=t) (ch:=[]) un hok bare (fun b z=>absurd z (by simp)),r,q⟩
end
noncomputable def tCall(sp:Sp)(dvs:List V)(E:XK)(t:TA):TE:=fun σ H Q=>t σ H fun vs H1=>sp (vs++dvs) H1 Q E
noncomputable def Binds(K:PySem.W.Frag)(fd:FuncData)(ps:List Str)(ds:List Value):Prop :=
 ∀ (s:Shared) (us:List Value),K.In s.heap->(us++ds).length=ps.length->BindsTo s fd ⟨us,[]⟩ (ps.zip (us++ds))
theorem Binds.all{K:PySem.W.Frag}{fd:FuncData}{ps:List Str}(h:∀ us:List Value,us.length=ps.length->bindArgs fd ⟨us,[]⟩=pure (ps.zip us)):Binds K fd ps []:=fun s us _ hl=>by
 rw[List.append_nil]at hl ⊢
 exact .of_eq (h us hl)
noncomputable def Passes(CX:CXT)(X:Cx)(E:XK):Prop:=∀ (pins:List (Addr×Obj)) (σ:St) (H:Hp) (s:Shared) (e:Value) (s':Shared),Inv X pins σ H s->CX X.stack H s E e s'->X.xe e s'
section
variable{X:Cx}{CX:CXT}{k:Nat}{f C:Addr}{fd:FuncData}{ps:List Str}{sp:Sp}{dvs:List V}{ds:List Value}{E:XK}{x m:Str}{p pos apos:Pos}{e o:Expr}{es:List Expr}{ta:TE}{t:TA}
theorem run_fn{pins:List (Addr×Obj)}{σ:St}{H:Hp}{s:Shared}{Q:VK}{us:List Value}{vs:List V}(F:FnOk X.prog X.w X.K X.mg X.base CX k f fd ps sp)(hr:Room k X.A)(hb:Binds X.K fd ps ds)(hd:Vals dvs ds)(hx:Passes CX X E)
  (I:Inv X pins σ H s) (r:Vals vs us) (h:sp (vs++dvs) H Q E):wpAny (model X.prog X.w) X.A (call (.ref f) us) (EP X pins σ Q) X.xe s:=by
 have r2:Vals (vs++dvs) (us++ds):=r.append hd
 have hl:(us++ds).length=ps.length:=by rw[<- r2.length];exact F.len _ _ _ _ h
 refine wpAny_call (codeAny_mono (F.run X.A X.stack s H ⟨us,[]⟩ (us++ds) (vs++dvs) Q E hr I.env0 (hb s us I.kIn hl) r2 h) fun r s' hq=>?_)
 cases r with
 |error e=>exact hx pins σ H s e s' I hq
 |ok fl =>
  cases fl with
  |ret u=>exact I.after hq
  |next=>exact False.elim hq
  |brk=>exact False.elim hq
  |cont=>exact False.elim hq
theorem pe_call(F:FnOk X.prog X.w X.K X.mg X.base CX k f fd ps sp)(hr:Room k X.A)(hg:Gl X x)(hm:X.mg x=some (.ref f))(hk:PySem.W.keepIn X.K (.ref f)=true)(hb:Binds X.K fd ps ds)(hd:Vals dvs ds)(hx:Passes CX X E)
  (ha:PA X (e :: es) t) (hdb:(x ==("__debug__":Str))=false:=by decide) (he:starEach (e :: es) X.env=(false,eval e X.env) :: starEach es X.env:=by rfl) (hpl:(backTo pos (starEach es X.env)).any (·.1)=false:=by rfl) :
  PE X (.Call (.Name x p) (e :: es) [] pos) (tCall sp dvs E t):=by
 intro pins s σ H Q I h
 refine wpAny_Call_Name_kw (ld_glob I hg hm ?_ hdb)
 refine PySem.W.callWith_K (h₀:=X.base) I.ok.mod.kin hk (thn (ha pos pins s σ H _ I h) fun us s1 ⟨vs,H1,I1,r,q⟩=>⟨I1.kIn,?_⟩) he hpl
 exact run_fn F hr hb hd hx I1 r q
end
structure FnScope(N P:List Str)(sc:Scope):Prop where
 kind:sc.kind = .function
 co:sc.isCoroutine=false
 gen:sc.isGenerator=false
 nd:N.Nodup
 pre:N.take P.length=P
 par:∀ x∈P,sc.names.lookup x=some .local\/sc.names.lookup x=some .cell
 nofree:∀ y∈sc.names,y.2≠.free
theorem bindL_out{kindOf:Str->Option NameKind}{x:Str}:∀ {binds:List (Str×Value)}{m:Str->Option Value},(∀ v,(x,v)∉binds)->bindL kindOf binds m x=m x
 |[],_,_=>rfl
 |(n,v) :: r,m,h=>by
  unfold bindL
  rw[bindL_out fun w hw=>h w (List.mem_cons_of_mem _ hw)]
  split
  ·have:x≠n:=by rintro rfl;exact h v List.mem_cons_self
   simp[this]
  ·rfl
theorem bindC_out{kindOf:Str->Option NameKind}{x:Str}:∀ {binds:List (Str×Value)}{m:Str->Option Value},(∀ v,(x,v)∉binds)->bindC kindOf binds m x=m x
 |[],_,_=>rfl
 |(n,v) :: r,m,h=>by
  unfold bindC
  rw[bindC_out fun w hw=>h w (List.mem_cons_of_mem _ hw)]
  split
  ·rfl
  ·have:x≠n:=by rintro rfl;exact h v List.mem_cons_self
   simp[this]
theorem bindL_get{kindOf:Str->Option NameKind}{x:Str}{v:Value}:∀ {P:List Str}{vs:List Value}{i:Nat}{m:Str->Option Value},P.Nodup->P[i]?=some x->vs[i]?=some v->kindOf x=some .local ->
  bindL kindOf (P.zip vs) m x=some v
 |[],_,_,_,_,h,_,_=>by simp at h
 | _ :: _,[],_,_,_,_,h,_=>by simp at h
 |p :: P,w :: vs,0,m,nd,h1,h2,hk=>by
  simp at h1 h2;subst h1;subst h2
  show bindL kindOf ((p,w) :: P.zip vs) m p=_
  unfold bindL
  rw[bindL_out fun v hv=>(List.nodup_cons.mp nd).1 (List.of_mem_zip hv).1,if_pos hk]
  simp
 |p :: P,w :: vs,i+1,m,nd,h1,h2,hk=>by
  show bindL kindOf ((p,w) :: P.zip vs) m x=_
  unfold bindL
  exact bindL_get (i:=i) (List.nodup_cons.mp nd).2 (by simpa using h1) (by simpa using h2) hk
theorem bindC_get{kindOf:Str->Option NameKind}{x:Str}{v:Value}:∀ {P:List Str}{vs:List Value}{i:Nat}{m:Str->Option Value},P.Nodup->P[i]?=some x->vs[i]?=some v->kindOf x≠some .local ->
  bindC kindOf (P.zip vs) m x=some v
 |[],_,_,_,_,h,_,_=>by simp at h
 | _ :: _,[],_,_,_,_,h,_=>by simp at h
 |p :: P,w :: vs,0,m,nd,h1,h2,hk=>by
  simp at h1 h2;subst h1;subst h2
  show bindC kindOf ((p,w) :: P.zip vs) m p=_
  unfold bindC
  rw[bindC_out fun v hv=>(List.nodup_cons.mp nd).1 (List.of_mem_zip hv).1,if_neg hk]
  simp
 |p :: P,w :: vs,i+1,m,nd,h1,h2,hk=>by
  show bindC kindOf ((p,w) :: P.zip vs) m x=_
  unfold bindC
  exact bindC_get (i:=i) (List.nodup_cons.mp nd).2 (by simpa using h1) (by simpa using h2) hk
noncomputable def start(N:List Str)(vs:List V):St:=vs.map some++List.replicate (N.length-vs.length) none
noncomputable def cxOf(CX:CXT)(P:Program)(w:World)(K:PySem.W.Frag)(mg:Str->Option Value)(base:Heap)(N:List Str)(qual:Str)(scope:Scope)(f:Addr)(cd:Value)(A:Around)(outer:List Env)(s:Shared)(H:Hp)(E:XK):Cx where
 prog:=P
 w:=w
 K:=K
 mg:=mg
 base:=base
 A:=A.deeper (envOfC qual scope s.heap.objs.size f cd)
 N:=N
 s₀:=s
 H₀:=H
 env:=envOfC qual scope s.heap.objs.size f cd
 outer:=outer
 stack:=envOfC qual scope s.heap.objs.size f cd :: outer
 ex:=[]
 calm:=true
 fn:=fun _=>true
 pn:=[]
 xe:=fun e s'=>wpAny (model P w) (A.deeper (envOfC qual scope s.heap.objs.size f cd)) (leaving (envOfC qual scope s.heap.objs.size f cd) e) (fun _ s''=>CX outer H s E e s'') (fun e' s''=>CX outer H s E e' s'') s'
theorem cell_has{sc:Scope}{n:Nat}{x:Str}(h:sc.names.lookup x=some .cell):∃ c,(cellsFrom n sc.names []).lookup x=some c:=by
 have q:=PySem.W.cellsFrom_some sc.names n [] (.inl h)
 exact Option.isSome_iff_exists.mp q
theorem inv_start{CX:CXT}{P:Program}{w:World}{K:PySem.W.Frag}{mg:Str->Option Value}{base:Heap}{N ps:List Str}{qual:Str}{scope:Scope}{f:Addr}{cd:Value}{A:Around}{outer:List Env}{s s1:Shared}{H:Hp}{E:XK}{us:List Value}{vs:List V}
  (S:FnScope N ps scope) (hd:A.handled=none) (e0:Env0 P w K mg base A outer s H) (hl:vs.length=ps.length) (r:Vals vs us)
  (x:InCallC s s.heap.objs.size (bindL (envOfC qual scope s.heap.objs.size f cd).kindOf (ps.zip us) fun _=>none) (cellsFrom (s.heap.objs.size+1) scope.names []) (bindC (envOfC qual scope s.heap.objs.size f cd).kindOf (ps.zip us) fun _=>none) s1) :
  Inv (cxOf CX P w K mg base N qual scope f cd A outer s H E) [] (start N vs) H s1:=by
 have hpl:ps.length<=N.length:=by have:=congrArg List.length S.pre;rw[List.length_take]at this;lia
 obtain⟨h1,tk,rfl,hk⟩:=x.done
 have noA:∀ b:Addr,b∉(cxOf CX P w K mg base N qual scope f cd A outer s H E).ex:=fun b z=>absurd (show b∈([]:List Addr)from z) (by simp)
 refine⟨⟨e0.mod,S.kind,rfl,rfl,Nat.le_refl _,fun y z c h1 h2=>?_,fun y hy=>?_,fun y c _ h=>?_,fun _=>hd,Around.frames_deeper e0.frames,.inr ⟨rfl,rfl⟩,fun b z=>absurd z (noA b),e0.bs,e0.bsz,fun b _ _=>noA b,fun b z=>absurd z (noA b),e0.funs,e0.frf⟩,
  rfl,e0.bare,Un.kept hk,⟨_,x.toInCall.ns,fun i y v h1 h2 h3=>?_⟩,fun y c h=>⟨_,x.cell y c h⟩,e0.hok.fresh (Nat.le_refl _),fun y c h=>?_,fun p hp=>absurd (show p∈([]:List (Addr×Obj))from hp) (by simp),e0.hok.kept hk,?_⟩
 ·exact name_of_addr x.apart (PySem.mem_of_lookup h1) (PySem.mem_of_lookup h2)
 ·have hy:scope.names.lookup y=some .cell\/scope.names.lookup y=some .free:=hy
  rcases hy with hy | hy
  ·exact cell_has hy
  ·exact absurd rfl (S.nofree _ (PySem.mem_of_lookup hy))
 ·exact Nat.le_of_lt (x.above y c (PySem.mem_of_lookup h))
 ·have hi:i<vs.length:=by
   unfold start at h2
   by_cases hi:i<vs.length
   ·exact hi
   ·rw[List.getElem?_append_right (by simpa using hi)]at h2
    rw[List.getElem?_replicate]at h2
    split at h2 <;> cases h2
  have ha:vs[i]?=some v:=by
   unfold start at h2
   rw[List.getElem?_append_left (by simpa using hi),List.getElem?_map]at h2
   cases e:vs[i]? with
   |none=>rw[e]at h2;cases h2
   |some a=>rw[e]at h2;cases h2;rfl
  obtain⟨u,hu,rv⟩:=r.get ha
  have hp:ps[i]?=some y:=by
   rw[<- S.pre,List.getElem?_take_of_lt (by lia)];exact h1
  have ndP:ps.Nodup:=by rw[<- S.pre];exact S.nd.sublist (List.take_sublist _ _)
  refine⟨u,rv,?_⟩
  rcases S.par y (List.mem_of_getElem? hp)with k | k
  ·exact .inl ⟨k,bindL_get ndP hp hu k⟩
  ·obtain⟨c,e⟩:=cell_has (n:=s.heap.objs.size+1) k
   refine .inr ⟨.inl k,c,e,?_⟩
   have q:=x.cell y c e
   rw[bindC_get ndP hp hu (by show scope.names.lookup y≠_;rw[k];decide)]at q
   exact q
 ·exact e0.hok.fresh (Nat.le_of_lt (x.above y c (PySem.mem_of_lookup h)))
 ·unfold start
  show _=N.length
  rw[List.length_append,List.length_map,List.length_replicate]
  lia
theorem fn_of{CX:CXT}{P:Program}{w:World}{K:PySem.W.Frag}{mg:Str->Option Value}{base:Heap}{k:Nat}{f:Addr}{name qual:Str}{params:Arguments}{body:List Stmt}{scope:Scope}{dV kV doc pm cdv ct oc:Value}{an od:Option Addr}
  {osl:Array (Option Value)}{N ps:List Str}{sp:Sp} (lk:K.lookup f=some ⟨oc,od,.func (PySem.W.fnOf name qual params body scope dV kV doc pm an cdv ct),osl⟩) (hcd:PySem.W.codeIn K cdv qual=true) (S:FnScope N ps scope)
  (len:∀ vs H Q E,sp vs H Q E->vs.length=ps.length)
  (hbody:∀ (A:Around) (outer:List Env) (s:Shared) (H:Hp) (vs:List V) (Q:VK) (E:XK),Room k (A.deeper (envOfC qual scope s.heap.objs.size f cdv))->sp vs H Q E ->
   ∃ t,PSs (cxOf CX P w K mg base N qual scope f cdv A outer s H E) body t/\t { nx:=fun _ H'=>Q .non H',rt:=Q } (start N vs) H) :
  FnOk P w K mg base CX (k+1) f (PySem.W.fnOf name qual params body scope dV kV doc pm an cdv ct) ps sp:=by
 refine⟨len,fun A outer s H args us vs Q E hr e0 hb r hsp=>?_⟩
 have hl:=len _ _ _ _ hsp
 have KX:K.In s.heap:=e0.mod.kin.keeps fun b o e=>(e0.bs b o e).1
 have lim:s.heap.NoLimit:=e0.mod.nolimit.keeps fun b o e=>(e0.bs b o e).1
 have hkind:∀ y∈ps.zip us,scope.names.lookup y.1=some .local\/(scope.names.lookup y.1=some .cell/\((cellsFrom (s.heap.objs.size+1) scope.names []).lookup y.1).isSome=true):=fun⟨n,v⟩ hy=>by
  rcases S.par n (List.of_mem_zip hy).1 with q | q
  ·exact .inl q
  ·exact .inr ⟨q,PySem.W.cellsFrom_some _ _ _ (.inl q)⟩
 refine codeAny_call_function hr.depth (KX _ _ lk) rfl S.co S.gen rfl (PySem.W.codeRec_of KX hcd) (hb _ _ _ _ ?_)
 refine wpAny_newFunctionEnv_cells S.kind hkind fun env he s1 x=>?_
 subst he
 refine⟨lim.keeps x.toInCall.keep,codeAny_func ?_⟩
 obtain⟨t,ht,hq⟩:=hbody A outer s H vs Q E (hr.deeper _) hsp
 have I:Inv (cxOf CX P w K mg base N qual scope f cdv A outer s H E) [] (start N vs) H s1:=inv_start S hr.hd e0 hl r x
 refine wpAny_mono (ht [] s1 (start N vs) H _ I hq) (fun fl s' hs=>?_) fun e s' hs=>hs
 have fin:∀ {σ':St}{H':Hp}{v:V}{u:Value},Inv (cxOf CX P w K mg base N qual scope f cdv A outer s H E) [] σ' H' s'->RelV v u->Q v H'->CE outer P w H s Q u s' :=
  fun {σ' H' v u} J rv q=>⟨v,H',J.os,J.bare,J.base,J.hok,rv,q⟩
 cases fl with
 |ret u =>
  obtain⟨v,σ',H',J,rv,q⟩:=hs
  exact fin J rv q
 |next =>
  obtain⟨σ',H',J,q⟩:=hs
  exact fin (v:=V.non) (u:=Value.none) J rfl q
 |brk =>
  obtain⟨_,_,_,q⟩:=hs
  exact False.elim q
 |cont =>
  obtain⟨_,_,_,q⟩:=hs
  exact False.elim q
open PySem PySem.Spec PyProof.Rows
section
variable{X:Cx}{x:Str}{p pos:Pos}{e:Expr}{es:List Expr}{t:TA}{id T:String}{r:List V->Hp->VK->Prop}
noncomputable def tCB(r:List V->Hp->VK->Prop)(t:TA):TE:=fun σ H Q=>t σ H fun vs H1=>r vs H1 Q
theorem pe_callB(hc:CallR X (.builtin id) r)(hg:Gl X x)(hm:X.mg x=none)(hv:bootBuiltins x=some (.builtin id))(ha:PA X (e :: es) t)(hn:x≠"__name__":=by decide)(hdb:(x ==("__debug__":Str))=false:=by decide)
  (he:starEach (e :: es) X.env=(false,eval e X.env) :: starEach es X.env:=by rfl) (hpl:(backTo pos (starEach es X.env)).any (·.1)=false:=by rfl):PE X (.Call (.Name x p) (e :: es) [] pos) (tCB r t):=by
 intro pins s σ H Q I h
 refine wpAny_Call_Name_kw (ld_blt I hg hm hv ?_ hn hdb)
 exact PyProof.Rows.callWith_builtin1 (thn (ha pos pins s σ H _ I h) fun us s1 ⟨vs,H1,I1,r1,q1⟩=>hc pins s1 σ H1 vs us Q I1 r1 q1) he hpl
theorem pe_callTy(hc:CallR X (.type T) r)(hg:Gl X x)(hm:X.mg x=none)(hv:bootBuiltins x=some (.type T))(ha:PA X (e :: es) t)(hn:x≠"__name__":=by decide)(hdb:(x ==("__debug__":Str))=false:=by decide)
  (he:starEach (e :: es) X.env=(false,eval e X.env) :: starEach es X.env:=by rfl) (hpl:(backTo pos (starEach es X.env)).any (·.1)=false:=by rfl):PE X (.Call (.Name x p) (e :: es) [] pos) (tCB r t):=by
 intro pins s σ H Q I h
 refine wpAny_Call_Name_kw (ld_blt I hg hm hv ?_ hn hdb)
 exact PyProof.Rows.callWith_type1 (thn (ha pos pins s σ H _ I h) fun us s1 ⟨vs,H1,I1,r1,q1⟩=>hc pins s1 σ H1 vs us Q I1 r1 q1) he hpl
end
open PySem PySem.Spec PyProof.Rows
section
variable{κ:Type}[DecidableEq κ]
noncomputable def valV(kvs:List (κ×V))(k:κ):Option V:=(kvs.find? fun kv=>decide (kv.1=k)).map (·.2)
noncomputable def putK(kvs:List (κ×V))(k:κ)(v:V):List (κ×V) :=
 if(kvs.any fun kv=>decide (kv.1=k))=true then kvs.map (fun kv=>if kv.1=k then(kv.1,v)else kv)else kvs++[(k,v)]
theorem valV_nil{k:κ}:valV ([]:List (κ×V)) k=none:=rfl
theorem valV_pos{p:κ×V}{r:List (κ×V)}{k:κ}(e:p.1=k):valV (p :: r) k=some p.2:=by simp[valV,List.find?_cons,e]
theorem valV_neg{p:κ×V}{r:List (κ×V)}{k:κ}(e:¬ p.1=k):valV (p :: r) k=valV r k:=by simp[valV,List.find?_cons,e]
theorem valV_any(k:κ):∀ kvs:List (κ×V),(kvs.any fun kv=>decide (kv.1=k))=(valV kvs k).isSome
 |[]=>rfl
 |p :: r=>by
  rw[List.any_cons]
  by_cases e:p.1=k
  ·simp only[valV_pos e,decide_eq_true e,Bool.true_or,Option.isSome_some]
  ·rw[valV_neg e,decide_eq_false e,Bool.false_or];exact valV_any k r
theorem length_putK(kvs:List (κ×V))(k:κ)(v:V):(putK kvs k v).length<=kvs.length+1:=by
 unfold putK
 split
 ·rw[List.length_map];lia
 ·rw[List.length_append,List.length_cons,List.length_nil];lia
theorem RelO.isSome_eq{o:Option V}{u:Option Value}(r:RelO o u):o.isSome=u.isSome:=by
 cases o with
 |none=>cases u with
  |none=>rfl
  |some _=>exact(show False from r).elim
 |some _=>cases u with
  |none=>exact(show False from r).elim
  |some _=>rfl
theorem KV.val{kvs:List (κ×V)}{vs:List (κ×Value)}(r:KV kvs vs)(k:κ):RelO (valV kvs k) (valueAt vs k):=by
 unfold KV at r
 induction r with
 |nil=>exact True.intro
 | @cons p q ps qs h t ih =>
  obtain⟨h1,h2⟩:=h
  by_cases e:p.1=k
  ·have e':q.1=k:=h1.symm.trans e
   have b:valueAt (q :: qs) k=some q.2:=by simp[valueAt,List.find?_cons,e']
   rw[valV_pos e,b];exact h2
  ·have e':¬ q.1=k:=fun z=>e (h1.trans z)
   have b:valueAt (q :: qs) k=valueAt qs k:=by simp[valueAt,List.find?_cons,e']
   rw[valV_neg e,b];exact ih
theorem KV.any{kvs:List (κ×V)}{vs:List (κ×Value)}(r:KV kvs vs)(k:κ):(kvs.any fun kv=>decide (kv.1=k))=vs.any fun kv=>decide (kv.1=k):=by
 unfold KV at r
 induction r with
 |nil=>rfl
 |cons h t ih=>rw[List.any_cons,List.any_cons,ih,h.1]
theorem KV.repl{kvs:List (κ×V)}{vs:List (κ×Value)}(r:KV kvs vs)(k:κ){y:V}{u:Value}(ry:RelV y u) :
  KV (kvs.map fun kv=>if kv.1=k then(kv.1,y)else kv) (vs.map fun kv=>if kv.1=k then(kv.1,u)else kv):=by
 unfold KV at r ⊢
 induction r with
 |nil=>exact .nil
 | @cons p q ps qs h t ih =>
  rw[List.map_cons,List.map_cons]
  refine .cons ?_ ih
  obtain⟨h1,h2⟩:=h
  by_cases e:p.1=k
  ·rw[if_pos e,if_pos (h1.symm.trans e)];exact⟨h1,ry⟩
  ·rw[if_neg e,if_neg (fun z=>e (h1.trans z))];exact⟨h1,h2⟩
theorem KV.put{kvs:List (κ×V)}{vs:List (κ×Value)}(r:KV kvs vs)(k:κ){y:V}{u:Value}(ry:RelV y u):KV (putK kvs k y) (stored vs k u):=by
 unfold putK stored
 rw[r.any k]
 by_cases e:(vs.any fun kv=>decide (kv.1=k))=true
 ·rw[if_pos e,if_pos e];exact r.repl k ry
 ·rw[if_neg e,if_neg e];exact Paired.snoc r ⟨rfl,ry⟩
theorem KV.length{kvs:List (κ×V)}{vs:List (κ×Value)}(r:KV kvs vs):kvs.length=vs.length:=Paired.length r
end
theorem kV_is{P:Program}{w:World}{k:Key}{u:Value}(r:RelV (kV k) u):(mixKind P w).is k u=true:=by
 cases k with
 |inl i=>obtain⟨t,e⟩:=(show ∃ t,u=Value.int i t from r);subst e;exact mixKind_int P w i t
 |inr x=>obtain⟨t,e⟩:=(show ∃ t,u=Value.str x t from r);subst e;exact mixKind_str P w x t
theorem items_are{P:Program}{w:World}:∀ {ks:List Key}{us:List Value},Vals (ks.map kV) us->ItemsAre (mixKind P w) ks us
 |[],_,r=>by rw[List.map_nil]at r;cases r;exact .nil
 |k :: ks,_,r=>by
  rw[List.map_cons]at r
  cases r with
  |cons h t=>exact .cons (kV_is h) (items_are t)
noncomputable abbrev KT(H:Hp):List (List Key×V)->List (List Key×Addr×Value)->Prop:=Paired fun p q=>p.1=q.1/\H q.2.1=some (.tup (p.1.map kV))/\RelV p.2 q.2.2
theorem KT.val{H:Hp}{kvs:List (List Key×V)}{xs:List (List Key×Addr×Value)}(r:KT H kvs xs)(k:List Key):RelO (valV kvs k) ((atKey xs k).map (·.2)):=by
 induction r with
 |nil=>exact True.intro
 | @cons p q ps qs h t ih =>
  obtain⟨h1,_,h2⟩:=h
  by_cases e:p.1=k
  ·have e':q.1=k:=h1.symm.trans e
   have b:atKey (q :: qs) k=some q.2:=by simp[atKey,List.find?_cons,e']
   rw[valV_pos e,b];exact h2
  ·have e':¬ q.1=k:=fun z=>e (h1.trans z)
   have b:atKey (q :: qs) k=atKey qs k:=by simp[atKey,List.find?_cons,e']
   rw[valV_neg e,b];exact ih
theorem KT.repl{H:Hp}{kvs:List (List Key×V)}{xs:List (List Key×Addr×Value)}(r:KT H kvs xs)(k:List Key){y:V}{u:Value}(ry:RelV y u) :
  KT H (kvs.map fun kv=>if kv.1=k then(kv.1,y)else kv) (xs.map (putAt k u)):=by
 induction r with
 |nil=>exact .nil
 | @cons p q ps qs h t ih =>
  rw[List.map_cons,List.map_cons]
  refine .cons ?_ ih
  obtain⟨h1,h2,h3⟩:=h
  unfold putAt
  by_cases e:p.1=k
  ·rw[if_pos e,if_pos (h1.symm.trans e)];exact⟨h1,h2,ry⟩
  ·rw[if_neg e,if_neg (fun z=>e (h1.trans z))];exact⟨h1,h2,h3⟩
theorem KT.put{H:Hp}{kvs:List (List Key×V)}{xs:List (List Key×Addr×Value)}(r:KT H kvs xs)(k:List Key){b:Addr}{y:V}{u:Value}(hb:H b=some (.tup (k.map kV)))(ry:RelV y u) :
  KT H (putK kvs k y) (storedH xs k b u):=by
 have e:(kvs.any fun kv=>decide (kv.1=k))=(atKey xs k).isSome:=by
  rw[valV_any,(r.val k).isSome_eq,Option.isSome_map]
 unfold putK storedH
 rw[e]
 by_cases q:(atKey xs k).isSome=true
 ·rw[if_pos q,if_pos q];exact r.repl k ry
 ·rw[if_neg q,if_neg q];exact Paired.snoc r ⟨rfl,hb,ry⟩
theorem KT.keeps{H H':Hp}{kvs:List (List Key×V)}{xs:List (List Key×Addr×Value)}(r:KT H kvs xs)(ht:∀ b ys,H b=some (.tup ys)->H' b=some (.tup ys)):KT H' kvs xs :=
 Paired.mapP r fun _ _ z=>⟨z.1,ht _ _ z.2.1,z.2.2⟩
section
variable{P:Program}{w:World}{H:Hp}{h:Heap}{a:Addr}
theorem rd_of{u:HO}(ok:HOk P w H h)(e:Rd H a u):ObjOk P w H h a u:=e.ok ok
theorem dk_rd{kvs:List (Key×V)}(ok:HOk P w H h)(e:Rd H a (.dK kvs)):kvs.length<=sizeLine/\(a == sysModules)=false/\∃ vs,KV kvs vs/\h.DictOf (mixKind P w) a vs :=
 show ObjOk P w H h a (.dK kvs)from rd_of ok e
theorem dk_of{kvs:List (Key×V)}(ok:HOk P w H h)(e:H a=some (.dK kvs)):kvs.length<=sizeLine/\(a == sysModules)=false/\∃ vs,KV kvs vs/\h.DictOf (mixKind P w) a vs:=dk_rd ok (.inl e)
theorem key_of{ks:List Key}(ok:HOk P w H h)(e:H a=some (.tup (ks.map kV))):(tupleKind (mixKind P w)).is h ks a:=by
 obtain⟨_,its,r,o,h1,h2,n,h3⟩:=(show ObjOk P w H h a (.tup (ks.map kV))from ok a _ e)
 exact⟨o,its.toArray,n,h1,h2,h3,by simpa using items_are r⟩
theorem dt_rd{kvs:List (List Key×V)}(ok:HOk P w H h)(e:Rd H a (.dT kvs)):kvs.length<=sizeLine/\(a == sysModules)=false /\
  ∃ xs,KT H kvs xs/\h.DictOfH (tupleKind (mixKind P w)) a xs:=by
 obtain⟨z,y,xs,r,o,es,ep,h1,h2,h3,h4,h5⟩:=(show ObjOk P w H h a (.dT kvs)from rd_of ok e)
 refine⟨z,y,xs,r,o,es,ep,h1,h2,h3,h4,fun x hx=>?_,h5⟩
 have all:∀ {l:List (List Key×V)}{m:List (List Key×Addr×Value)},KT H l m->∀ x∈m,(tupleKind (mixKind P w)).is h x.1 x.2.1:=by
  intro l m q
  induction q with
  |nil=>intro x hx;exact nomatch hx
  | @cons p q ps qs hq t ih =>
   intro x hx
   rcases List.mem_cons.mp hx with e | hx
   ·subst e
    exact key_of ok (by rw[<- hq.1];exact hq.2.1)
   ·exact ih x hx
 exact all r x hx
theorem dt_of{kvs:List (List Key×V)}(ok:HOk P w H h)(e:H a=some (.dT kvs)):kvs.length<=sizeLine/\(a == sysModules)=false /\
  ∃ xs,KT H kvs xs/\h.DictOfH (tupleKind (mixKind P w)) a xs:=dt_rd ok (.inl e)
end
noncomputable def DGet(H:Hp)(a:Addr)(y:V)(r:Option V):Prop :=
 (∃ kvs k,Rd H a (.dK kvs)/\y=kV k/\r=valV kvs k)\/∃ kvs k b,Rd H a (.dT kvs)/\y = .ref b/\H b=some (.tup (k.map kV))/\r=valV kvs k
noncomputable def DPut(H:Hp)(a:Addr)(y v:V)(H':Hp):Prop :=
 (∃ kvs k,H a=some (.dK kvs)/\y=kV k/\kvs.length<sizeLine/\H'=upd H a (.dK (putK kvs k v))) \/
 ∃ kvs k b,H a=some (.dT kvs)/\y = .ref b/\H b=some (.tup (k.map kV))/\kvs.length<sizeLine/\H'=upd H a (.dT (putK kvs k v))
theorem DGet.k{H:Hp}{a:Addr}{kvs:List (Key×V)}{k:Key}(e:H a=some (.dK kvs)):DGet H a (kV k) (valV kvs k):=.inl ⟨kvs,k,.inl e,rfl,rfl⟩
theorem DPut.k{H:Hp}{a:Addr}{kvs:List (Key×V)}{k:Key}{v:V}(e:H a=some (.dK kvs))(hl:kvs.length<sizeLine):DPut H a (kV k) v (upd H a (.dK (putK kvs k v))):=.inl ⟨kvs,k,e,rfl,hl,rfl⟩
section
variable{X:Cx}{pins:List (Addr×Obj)}{σ:St}{H:Hp}{s:Shared}{a:Addr}{y v:V}{u r:Value}{o:Option V}{A:Around}{E:Value->Shared->Prop}
theorem Inv.big(I:Inv X pins σ H s):sysModules<s.heap.objs.size:=by
 have h:mainGlobals<s.heap.objs.size:=(I.mod.glob.keeps I.bk).lt
 exact Nat.lt_trans (by decide) h
theorem d_getItem{Q:Value->Shared->Prop}(hu:A.units+1<cLine)(I:Inv X pins σ H s)(g:DGet H a y (some v))(ry:RelV y u)(h:∀ w' s',Inv X pins σ H s'->RelV v w'->Q w' s') :
  wpAny (model X.prog X.w) A (getItem (.ref a) u) Q E s:=by
 rcases g with⟨kvs,k,e,ey,l⟩ |⟨kvs,k,b,e,ey,eb,l⟩
 ·subst ey
  obtain⟨z,hd,vs,rel,dd⟩:=dk_rd I.hok e
  obtain⟨w',hw,rw'⟩:=RelO.some_of (v:=v) (o:=valueAt vs k) (by rw[l];exact rel.val k)
  exact wpAny_getItem_of (kV_is ry) dd.mapOf hw (h w' _ (I.tok _) rw')
 ·subst ey
  cases(show u=Value.ref b from ry)
  obtain⟨z,hd,xs,rel,dd⟩:=dt_rd I.hok e
  obtain⟨w',hw,rw'⟩:=RelO.some_of (v:=v) (o:=(atKey xs k).map (·.2)) (by rw[l];exact rel.val k)
  obtain⟨p,hp,hp2⟩:=Option.map_eq_some_iff.mp hw
  refine wpAny_getItem_heap (tupleKind_room_in1 hu) (key_of I.hok eb) dd hp ?_
  rw[hp2]
  exact h w' _ (I.tok _) rw'
theorem d_notIn{Q:Value->Shared->Prop}(hu:A.units+1<cLine)(I:Inv X pins σ H s)(g:DGet H a y o)(ry:RelV y u)(h:∀ s',Inv X pins σ H s'->Q (.bool (!o.isSome)) s') :
  wpAny (model X.prog X.w) A (compareOp .NotIn u (.ref a)) Q E s:=by
 rcases g with⟨kvs,k,e,ey,l⟩ |⟨kvs,k,b,e,ey,eb,l⟩
 ·subst ey
  obtain⟨z,hd,vs,rel,dd⟩:=dk_rd I.hok e
  refine wpAny_notIn_of (kV_is ry) hd dd.mapOf ?_
  rw[<-(rel.val k).isSome_eq,<- l]
  exact h _ (I.tok _)
 ·subst ey
  cases(show u=Value.ref b from ry)
  obtain⟨z,hd,xs,rel,dd⟩:=dt_rd I.hok e
  refine wpAny_notIn_heap (tupleKind_room_in1 hu) (key_of I.hok eb) hd dd ?_
  have q:=(rel.val k).isSome_eq
  rw[Option.isSome_map]at q
  rw[<- q,<- l]
  exact h _ (I.tok _)
theorem d_write{h':Heap}{t':Nat}{ob:HO}(I:Inv X pins σ H s)(mu:Mut (H a))(hs:Heap.SameBut a s.heap h')(he:∃ q,h'.get? a=some q)(new:ObjOk X.prog X.w (upd H a ob) h' a ob) :
  Inv X pins σ (upd H a ob) { s with heap:=h',toks:=t' } :=
 I.write (x:=a) (e:=a) mu (.inl rfl) (fun b q hb z=>(hs.2 b hb).trans z) he new
theorem dk_new{P:Program}{w:World}{H':Hp}{h':Heap}{kvs:List (Key×V)}{vs:List (Key×Value)}(z:kvs.length<=sizeLine)(hd:(a == sysModules)=false)(rel:KV kvs vs)(dd:h'.DictOf (mixKind P w) a vs) :
  ObjOk P w H' h' a (.dK kvs):=⟨z,hd,vs,rel,dd⟩
theorem d_setItem{H':Hp}{Q:Unit->Shared->Prop}(hu:A.units+1<cLine)(I:Inv X pins σ H s)(g:DPut H a y v H')(ry:RelV y u)(rv:RelV v r)(h:∀ s',Inv X pins σ H' s'->Q () s') :
  wpAny (model X.prog X.w) A (setItem (.ref a) u r) Q E s:=by
 rcases g with⟨kvs,k,e,ey,l,eH⟩ |⟨kvs,k,b,e,ey,eb,l,eH⟩
 ·subst ey eH
  obtain⟨z,hd,vs,rel,dd⟩:=dk_of I.hok e
  have hz:vs.length<=sizeLine:=by rw[<- rel.length];exact z
  have hl:(putK kvs k v).length<=sizeLine:=by have:=length_putK kvs k v;lia
  refine wpAny_setItem_pairs (hsz:=hz) (kV_is ry) dd fun h' dd' hs=>h _ ?_
  have he:∃ q,h'.get? a=some q:=let ⟨q,_,_,hq,_⟩:=dd';⟨q,hq⟩
  exact d_write I (by rw[e];exact True.intro) hs he (dk_new hl hd (rel.put k rv) dd')
 ·subst ey eH
  cases(show u=Value.ref b from ry)
  obtain⟨z,hd,xs,rel,dd⟩:=dt_of I.hok e
  have hz:xs.length<=sizeLine:=by rw[<- Paired.length rel];exact z
  have hl:(putK kvs k v).length<=sizeLine:=by have:=length_putK kvs k v;lia
  refine wpAny_setItem_heap (hsz:=hz) (tupleKind_room_in1 hu) (key_of I.hok eb) dd fun h' dd' hs=>h _ ?_
  obtain⟨q,es,ep,hq,h2,h3,h4,_,h5⟩:=dd'
  refine d_write I (by rw[e];exact True.intro) hs ⟨q,hq⟩ ⟨hl,hd,_,(rel.put k eb rv).keeps fun c ys ec=>?_,q,es,ep,hq,h2,h3,h4,h5⟩
  rw[upd_ne (ne_of ec e (fun z=>nomatch z))]
  exact ec
end
noncomputable def NoSl(i:Expr):Prop:=∀ ov iv,subscripted i false ov iv=operate [ov,iv] (getItem ov iv)
theorem subD_of{prog:Program}{w:World}{A:Around}{E:Value->Shared->Prop}{s:Shared}{env:Env}{value slice:Expr}{pos:Pos}{T id:String}{Q:Value->Shared->Prop}
  (hl:typeLookup (.type T) "__getitem__" = pure (some (.builtin id))) (hs:NoSl slice)
  (h:wpAny (model prog w) A (eval value env) (fun o s₁=>wpAny (model prog w) A (eval slice env) (fun i s₂=>s₂.TypeIs o T/\wpAny (model prog w) A (getItem o i) Q E s₂) E s₁) E s) :
  wpAny (model prog w) A (eval (.Subscript value slice pos) env) Q E s:=by
 refine Subscript_ (wpAny_mono h (fun o s₁ h₁=>wpAny_mono h₁ (fun i s₂ h₂=>?_) fun _ _ x=>x) fun _ _ x=>x)
 obtain⟨hT,h₂⟩:=h₂
 unfold subscriptTail
 refine wpAny_bind ?_
 rw[getitemInPython_of_ne hT.not_modules]
 refine wpAny_bind (wpAny_specialOf hT hl ?_)
 have fin:wpAny (model prog w) A (subscripted slice false o i) (fun r s₃=>wpAny (model prog w) A (letTemporaryGo value o r >>= fun _=>pure r) Q E s₃) E s₂:=by
  rw[hs o i]
  exact wpAny_operating (wpAny_mono h₂ (fun r s₃ h₃=>wpAny_bind (wpAny_letTemporaryGo (wpAny_pure h₃))) fun _ _ x=>x)
 first
  |exact wpAny_pure (wpAny_bind fin)
  |exact wpAny_bind (wpAny_pure (wpAny_bind fin))
  |exact wpAny_bind fin
theorem dict_typeIs{X:Cx}{pins:List (Addr×Obj)}{σ:St}{H:Hp}{s:Shared}{a:Addr}{y:V}{o:Option V}(I:Inv X pins σ H s)(g:DGet H a y o):s.TypeIs (.ref a) "dict":=by
 rcases g with⟨kvs,k,e,_,_⟩ |⟨kvs,k,b,e,_,_,_⟩
 ·obtain⟨_,_,vs,_,dd⟩:=dk_rd I.hok e
  exact dd.typeIs
 ·obtain⟨_,_,xs,_,dd⟩:=dt_rd I.hok e
  exact dd.typeIs
noncomputable def tDGet(td ty:TE):TE:=fun σ H Q=>td σ H fun x H1=>ty σ H1 fun y H2=>∃ a v,x = .ref a/\DGet H2 a y (some v)/\Q v H2
noncomputable def tDNotIn(ty td:TE):TE:=fun σ H Q=>ty σ H fun y H1=>td σ H1 fun x H2=>∃ a o,x = .ref a/\DGet H2 a y o/\Q (.bl (!o.isSome)) H2
noncomputable def sDPut(td ty tv:TE):TS:=fun D σ H=>tv σ H fun v H1=>td σ H1 fun x H2=>ty σ H2 fun y H3=>∃ a H4,x = .ref a/\DPut H3 a y v H4/\D.nx σ H4
section
variable{X:Cx}{o i e value:Expr}{pos pos' tpos:Pos}{td ty tv:TE}
theorem pe_dget(hu:X.A.units+1<cLine)(ho:PE X o td)(hi:PE X i ty)(hs:NoSl i):PE X (.Subscript o i pos) (tDGet td ty):=by
 intro pins s σ H Q I h
 refine subD_of PySem.F.slot_dict_getitem.lookup hs (thn (ho pins s σ H _ I h) fun u s1 ⟨x,H1,I1,rx,q1⟩=>thn (hi pins s1 σ H1 _ I1 q1) fun iv s2 ⟨y,H2,I2,ry,a,v,ex,g,q2⟩=>?_)
 subst ex
 obtain rfl:u=Value.ref a:=rx
 exact⟨dict_typeIs I2 g,d_getItem hu I2 g ry fun w' s3 I3 rw'=>⟨v,H2,I3,rw',q2⟩⟩
theorem pc_dnotin(hu:X.A.units+1<cLine)(hi:PE X i ty)(ho:PE X o td):PC X .NotIn i o (tDNotIn ty td):=by
 intro pins s σ H Q I h
 refine thn (hi pins s σ H _ I h) fun iv s1 ⟨y,H1,I1,ry,q1⟩=>thn (ho pins s1 σ H1 _ I1 q1) fun u s2 ⟨x,H2,I2,rx,a,ov,ex,g,q2⟩=>?_
 subst ex
 obtain rfl:u=Value.ref a:=rx
 exact d_notIn hu I2 g ry fun s3 I3=>⟨.bl (!ov.isSome),H2,I3,rfl,q2⟩
theorem ps_dput(hu:X.A.units+1<cLine)(ho:PE X o td)(hi:PE X i ty)(hv:PE X value tv)(hs:swapsWith value (some (.Subscript o i pos')) pos.line X.env=pure false) :
  PS X (.Assign [.Subscript o i pos'] value pos) (sDPut td ty tv):=by
 intro pins s σ H D I h
 refine wpAny_Assign_Subscript (thn (hv pins s σ H _ I h) fun r s1 ⟨v,H1,I1,rv,q1⟩=>thn (ho pins s1 σ H1 _ I1 q1) fun u s2 ⟨x,H2,I2,rx,q2⟩=>thn (hi pins s2 σ H2 _ I2 q2) fun iv s3 ⟨y,H3,I3,ry,a,H4,ex,g,q3⟩=>?_) hs
 subst ex
 obtain rfl:u=Value.ref a:=rx
 exact d_setItem hu I3 g ry rv fun s4 I4=>⟨σ,H4,I4,q3⟩
end
theorem dk_empty{P:Program}{w:World}{H:Hp}(h:Heap)(hb:sysModules<h.objs.size):ObjOk P w H (h.push { cls:=.type "dict",data:=.dict #[] }) h.objs.size (.dK []) :=
 ⟨Nat.zero_le _,beq_eq_false_iff_ne.mpr (Ne.symm (Nat.ne_of_lt hb)),[],.nil,Heap.DictOf.new h⟩
noncomputable def tDNewK:TE:=fun _ H Q=>∀ p,H p=none->Q (.ref p) (upd H p (.dK []))
section
variable{X:Cx}{pos:Pos}
theorem pe_dnewK:PE X (.Dict [] [] pos) tDNewK:=fun pins s σ H Q I h =>
 wpAny_Dict_empty ⟨.ref s.heap.objs.size,_,I.laid (a:=s.heap.objs.size) (o:=.dK []) (t':=s.toks) (fun _ _ q=>Heap.get?_push_of_some _ q) (Nat.le_refl _) (dk_empty s.heap I.big),rfl,h _ (I.hok.fresh (Nat.le_refl _))⟩
end
end L2
namespace HT
open PySem PyProof.Rows
section
open PySem.SeqAt
open PySem.AutoSeq1 (wpAny_loadPart')
open PySem.MeetsSeq PySem.MeetsSeq2 PySem.MeetsSeq3
end
section
variable{prog:Program}{w:World}{A:Around}{E:Value->Shared->Prop}{s:Shared}
theorem cat_tup{t b:Addr}{vs ws:List Value}{Q:Value->Shared->Prop}(ht:IsTup s.heap t vs.toArray)(hb:IsTup s.heap b ws.toArray)(hv:vs≠[])
  (h1:ws=[]->Q (.ref t) s) (h2:ws≠[]->Q (.ref s.heap.objs.size) { s with heap:=s.heap.push { cls:=.type "tuple",data:=.seq (vs++ws).toArray } })
  (hsz:vs.length+ws.length<=sizeLine):wpAny (model prog w) A (binaryOp .Add (.ref t) (.ref b)) Q E s:=by
 obtain⟨⟨cls,dd,data,sl⟩,ho,hc,n,hd⟩:=id ht
 obtain⟨⟨cls2,dd2,data2,sl2⟩,ho2,hc2,n2,hd2⟩:=id hb
 simp only at hc hd hc2 hd2
 subst hc hd hc2 hd2
 have e:vs.toArray++ws.toArray=(vs++ws).toArray:=by simp
 by_cases hw:ws=[]
 ·exact concat_meets ⟨_,ho,rfl⟩ ⟨_,ho2,rfl⟩ noFill_tuple_add seq_tuple_add PySem.F.slot_tuple_add PySem.F.entry_tuple_add (PySem.F.args_tuple_add_2 _ _)
   (tuple_addW1 t b vs.toArray ws.toArray n n2 dd dd2 sl sl2 (by simpa using hv) (by simp[hw])) ⟨ho,ho2,h1 hw⟩
 ·refine concat_meets ⟨_,ho,rfl⟩ ⟨_,ho2,rfl⟩ noFill_tuple_add seq_tuple_add PySem.F.slot_tuple_add PySem.F.entry_tuple_add (PySem.F.args_tuple_add_2 _ _)
   (tuple_addW2 t b vs.toArray ws.toArray n n2 dd dd2 sl sl2 (by simpa using hv) (by simpa using hw) (by rw[List.size_toArray,List.size_toArray];exact hsz)) ⟨ho,ho2,?_⟩
  rw[e]
  exact h2 hw
noncomputable def sIx(n d:Nat):Option Int->Nat
 |none=>d
 |some v=>if v<0 then(v+(n:Int)).toNat else min v.toNat n
theorem sIx_none(n d:Nat):sIx n d none=d:=rfl
theorem sIx_nat(n d k:Nat):sIx n d (some (k:Int))=min k n:=by
 show(if(k:Int)<0 then((k:Int)+(n:Int)).toNat else min (k:Int).toNat n)=min k n
 rw[if_neg (by omega),Int.toNat_natCast]
end
end HT
namespace L2
open PySem PySem.Spec PyProof.Rows
noncomputable abbrev TO:=St->Hp->(Option Int->Hp->Prop)->Prop
noncomputable def PO(X:Cx)(e:Option Expr)(t:TO):Prop :=
 ∀ (pins:List (Addr×Obj)) (s:Shared) (σ:St) (H:Hp) (Q:Option Int->Hp->Prop),Inv X pins σ H s->t σ H Q ->
  wpAny (model X.prog X.w) X.A (evalPart e X.env) (fun u s'=>∃ o H',Inv X pins σ H' s'/\IsPart u o/\Q o H') X.xe s
noncomputable def tNoPart:TO:=fun _ H Q=>Q none H
noncomputable def tPart(t:TE):TO:=fun σ H Q=>t σ H fun x H1=>∃ i,x = .int i/\Q (some i) H1
theorem intsAre_of{ns:List Int}:∀ {us:List Value},Vals (ns.map V.int) us->IntsAre us ns:=by
 induction ns with
 |nil=>intro us r;rw[List.map_nil]at r;cases r;exact .nil
 |cons n ns ih =>
  intro us r
  rw[List.map_cons]at r
  cases r with
  |cons r1 r2 =>
   obtain⟨t,e⟩:=r1
   subst e
   exact .cons n t (ih r2)
section
variable{X:Cx}{e:Expr}{te:TE}{lo hi:Option Expr}{tl th:TO}{pos p2:Pos}
theorem po_none:PO X none tNoPart:=by
 intro pins s σ H Q I h
 rw[evalPart_none]
 exact wpAny_pure ⟨none,H,I,.none,h⟩
theorem po_some(h:PE X e te):PO X (some e) (tPart te):=by
 intro pins s σ H Q I hw
 rw[evalPart_some]
 refine thn (h pins s σ H _ I hw) fun u s1 ⟨x,H1,I1,r1,q1⟩=>?_
 obtain⟨i,rfl,q⟩:=q1
 obtain⟨t,rfl⟩:=r1
 exact⟨some i,H1,I1,.int i t,q⟩
noncomputable def SlR(X:Cx)(r:V->Option Int->Option Int->Hp->VK->Prop):Prop :=
 ∀ (pins:List (Addr×Obj)) (s:Shared) (σ:St) (H:Hp) (x:V) (v vl vu:Value) (lo hi:Option Int) (sl:Addr) (Q:VK),Inv X pins σ H s->RelV x v->s.heap.IsSliceOf sl vl vu .none->IsPart vl lo->IsPart vu hi->r x lo hi H Q ->
  ∃ T id,typeLookup (.type T) "__getitem__" = pure (some (.builtin id))/\s.TypeIs v T/\wpAny (model X.prog X.w) X.A (getItem v (.ref sl)) (EP X pins σ Q) X.xe s
noncomputable def tSl(r:V->Option Int->Option Int->Hp->VK->Prop)(te:TE)(tl th:TO):TE:=fun σ H Q=>te σ H fun x H1=>tl σ H1 fun l H2=>th σ H2 fun u H3=>r x l u H3 Q
theorem pe_slice{r:V->Option Int->Option Int->Hp->VK->Prop}(hr:SlR X r)(he:PE X e te)(hl:PO X lo tl)(hu:PO X hi th):PE X (.Subscript e (.Slice lo hi none p2) pos) (tSl r te tl th):=by
 intro pins s σ H Q I h
 refine Subscript_ (thn (he pins s σ H _ I h) fun v s1 ⟨x,H1,I1,r1,q1⟩=>?_)
 refine wpAny_Slice (thn (hl pins s1 σ H1 _ I1 q1) fun vl s2 ⟨l,H2,I2,pl,q2⟩=>thn (hu pins s2 σ H2 _ I2 q2) fun vu s3 ⟨u,H3,I3,pu,q3⟩=>?_)
 rw[evalPart_none]
 refine wpAny_pure ?_
 have I4:Inv X pins σ H3 { s3 with heap:=s3.heap.push { cls:=.type "slice",data:=.fields #[vl,vu,.none] } }:=I3.kept (t':=s3.toks) fun b ob q=>Heap.get?_push_of_some _ q
 obtain⟨T,id,hT,ht,hg⟩:=hr pins { s3 with heap:=s3.heap.push { cls:=.type "slice",data:=.fields #[vl,vu,.none] } } σ H3 x v vl vu l u s3.heap.objs.size Q I4 r1 (Heap.IsSliceOf.new ..) pl pu q3
 show wpAny (model X.prog X.w) X.A (subscriptTail e (.Slice lo hi none p2) v (.ref s3.heap.objs.size)) (EP X pins σ Q) X.xe { s3 with heap:=s3.heap.push { cls:=.type "slice",data:=.fields #[vl,vu,.none] } }
 exact tail_any (ops:=[.ref s3.heap.objs.size,v]) ht hT hg (by with_unfolding_all rfl)
noncomputable def cutV(xs:List V)(lo hi:Option Int):List V:=(xs.drop (HT.sIx xs.length 0 lo)).take (HT.sIx xs.length xs.length hi-HT.sIx xs.length 0 lo)
theorem cutV_length(xs:List V)(lo hi:Option Int):(cutV xs lo hi).length<=xs.length:=by
 unfold cutV
 rw[List.length_take,List.length_drop]
 omega
noncomputable def rCatT(K:PySem.W.Frag):R2:=fun x y H Q=>∃ a b xs ys,x = .ref a/\y = .ref b/\SqT K H a xs/\SqT K H b ys/\xs≠[]/\xs.length+ys.length<=sizeLine /\
 (ys=[]->Q (.ref a) H)/\(ys≠[]->∀ p,H p=none->Q (.ref p) (upd H p (.tup (xs++ys))))
theorem Vals.nil_iff{xs:List V}{us:List Value}(r:Vals xs us):us=[]↔xs=[]:=by
 cases r with
 |nil=>simp
 |cons _ _=>simp
theorem op_catT:OpR X (binaryOp .Add) (rCatT X.K):=by
 intro pins s σ H x y v u Q I rx ry h
 obtain⟨a,b,xs,ys,rfl,rfl,ha,hb,hx,hz,q1,q2⟩:=h
 cases rx
 cases ry
 obtain⟨its,r1,p1,_⟩:=I.tuple ha
 obtain⟨its2,r2,p2,_⟩:=I.tuple hb
 refine HT.cat_tup p1 p2 (fun z=>hx (r1.nil_iff.mp z)) (fun z=>⟨.ref a,H,I,rfl,q1 (r2.nil_iff.mp z)⟩) (fun z=>?_) (by rw[<- r1.length,<- r2.length];exact hz)
 refine⟨.ref s.heap.objs.size,_,I.laid (t':=s.toks) (o:=.tup (xs++ys)) (fun b ob q=>Heap.get?_push_of_some _ q) (Nat.le_refl _) ?_,rfl,q2 (fun w=>z (r2.nil_iff.mpr w)) _ (I.hok.fresh (Nat.le_refl _))⟩
 exact⟨by rw[List.length_append];exact hz,_,r1.append r2,IsTup.new _ _⟩
end
open PySem PySem.Spec PyProof.Rows
noncomputable def ixN(n:Nat)(i:Int):Option Nat:=if 0<=i then(if i<n then some i.toNat else none)else if -(n:Int)<=i then some (i+n).toNat else none
noncomputable def atI{α:Type}(xs:List α)(i:Int):Option α:=(ixN xs.length i).bind fun j=>xs[j]?
theorem ixN_seq{n:Nat}{i:Int}{j:Nat}(h:ixN n i=some j):seqIndex? i n=some j/\j<n/\-(n:Int)<=i/\i<n:=by
 unfold ixN at h
 by_cases h0:0<=i
 ·rw[if_pos h0]at h
  by_cases h1:i<n
  ·rw[if_pos h1]at h
   have e:i.toNat=j:=Option.some.inj h
   exact⟨by rw[seqIndex_of h0 h1,e],by omega,by lia,h1⟩
  ·rw[if_neg h1]at h;cases h
 ·rw[if_neg h0]at h
  by_cases h1:-(n:Int)<=i
  ·rw[if_pos h1]at h
   have e:(i+n).toNat=j:=Option.some.inj h
   exact⟨by rw[seqIndex_neg (by lia) h1,e],by lia,h1,by lia⟩
  ·rw[if_neg h1]at h;cases h
theorem atI_get{α:Type}{xs:List α}{i:Int}{v:α}(h:atI xs i=some v):∃ j,seqIndex? i xs.length=some j/\xs[j]?=some v/\j<xs.length/\-(xs.length:Int)<=i/\i<xs.length:=by
 unfold atI at h
 cases e:ixN xs.length i with
 |none=>rw[e]at h;cases h
 |some j =>
  rw[e]at h
  obtain⟨h1,h2,h3,h4⟩:=ixN_seq e
  exact⟨j,h1,h,h2,h3,h4⟩
theorem atI_nat{α:Type}{xs:List α}{j:Nat}{v:α}(h:xs[j]?=some v):atI xs (j:Int)=some v:=by
 have hj:j<xs.length:=(List.getElem?_eq_some_iff.mp h).1
 have e:ixN xs.length (j:Int)=some j:=by
  unfold ixN
  rw[if_pos (by lia),if_pos (by lia)];simp
 unfold atI;rw[e];exact h
noncomputable def PlainIx(b:Expr):Prop:=∀ o i,subscripted b false o i=operate [o,i] (getItem o i)
noncomputable def IxR(X:Cx)(r:R2):Prop :=
 ∀ (value slice:Expr) (pins:List (Addr×Obj)) (s:Shared) (σ:St) (H:Hp) (x y:V) (v u:Value) (Q:VK),Inv X pins σ H s->RelV x v->RelV y u->r x y H Q ->
  subscripted slice false v u=operate [v,u] (getItem v u)->wpAny (model X.prog X.w) X.A (subscriptTail value slice v u) (EP X pins σ Q) X.xe s
noncomputable def MtR(X:Cx)(id:String)(r:V->List V->Hp->VK->Prop):Prop :=
 ∀ (pins:List (Addr×Obj)) (s:Shared) (σ:St) (H:Hp) (x:V) (xs:List V) (v:Value) (us:List Value) (Q:VK),Inv X pins σ H s->RelV x v->Vals xs us->r x xs H Q ->
  wpAny (model X.prog X.w) X.A (call (.builtin id) (v :: us)) (EP X pins σ Q) X.xe s
section
variable{X:Cx}{a b:Expr}{ta tb:TE}{pos:Pos}
theorem pe_ix{r:R2}(hr:IxR X r)(ha:PE X a ta)(hb:PE X b tb)(hs:PlainIx b):PE X (.Subscript a b pos) (tOp r ta tb):=by
 intro pins s σ H Q I h
 exact Subscript_ (binT ha hb I h fun v u s2 x y H2 I2 rx ry q=>hr a b pins s2 σ H2 x y v u Q I2 rx ry q (hs _ _))
noncomputable def rIxL(K:PySem.W.Frag):R2:=fun x y H Q=>∃ p xs i v,x = .ref p/\y = .int i/\SqL K H p xs/\atI xs i=some v/\Q v H
noncomputable def rIxT(K:PySem.W.Frag):R2:=fun x y H Q=>∃ p xs i v,x = .ref p/\y = .int i/\SqT K H p xs/\atI xs i=some v/\Q v H
theorem ix_list:IxR X (rIxL X.K):=by
 intro value slice pins s σ H x y v u Q I rx ry h hs
 obtain⟨p,xs,i,z,rfl,rfl,hq,he,q⟩:=h
 cases rx
 obtain⟨t,rfl⟩:=ry
 obtain⟨its,r,pl,hz⟩:=I.list hq
 obtain⟨j,h1,h2,h3,h4,h5⟩:=atI_get he
 obtain⟨w,ew,rw'⟩:=r.get h2
 have hl:=r.length
 have hn:=line63
 have fin:EP X pins σ Q w s:=⟨z,H,I,rw',q⟩
 by_cases h0:0<=i
 ·have hj:i.toNat=j:=by
   rw[seqIndex_of h0 h5]at h1
   exact Option.some.inj h1
  exact item_listR pl.isList h0 (by lia) (by rw[hj];simpa using ew) fin hs
 ·have hj:(i+(its.toArray.size:Int)).toNat=j:=by
   rw[seqIndex_neg (by lia) h4]at h1
   rw[List.size_toArray,<- hl]
   exact Option.some.inj h1
  exact subscriptTail_builtinR (x:=w) pl.isList.typeIs slot_list_getitem.lookup
   (wpAny_getItem_list_neg (Q:=fun r s'=>r=w/\EP X pins σ Q r s') pl.isList (by lia) (by rw[List.size_toArray] <;> lia) (by lia) (by rw[hj];simpa using ew) ⟨rfl,fin⟩) hs
theorem ix_tup:IxR X (rIxT X.K):=by
 intro value slice pins s σ H x y v u Q I rx ry h hs
 obtain⟨p,xs,i,z,rfl,rfl,hq,he,q⟩:=h
 cases rx
 obtain⟨t,rfl⟩:=ry
 obtain⟨its,r,pl,hz⟩:=I.tuple hq
 obtain⟨j,h1,h2,h3,h4,h5⟩:=atI_get he
 obtain⟨w,ew,rw'⟩:=r.get h2
 have hl:=r.length
 have hn:=line63
 have fin:EP X pins σ Q w s:=⟨z,H,I,rw',q⟩
 exact subscriptTail_builtinR (x:=w) pl.typeIs slot_tuple_getitem.lookup
  (getItem_tuple (j:=j) (Q:=fun r s'=>r=w/\EP X pins σ Q r s') pl (by lia) (by lia) (by rw[List.size_toArray,<- hl];exact h1) (by simpa using ew) ⟨rfl,fin⟩) hs
theorem mapSeq_set(its:List Value)(n j:Nat)(u:Value):Obj.mapSeq (·.setIfInBounds j u) { cls:=.type "list",data:=.seq its.toArray n } = { cls:=.type "list",data:=.seq (its.set j u).toArray n }:=by
 simp[Obj.mapSeq]
theorem Inv.lst{pins:List (Addr×Obj)}{σ:St}{H:Hp}{s:Shared}{p:Addr}{xs:List V}(I:Inv X pins σ H s)(h:H p=some (.lst xs)) :
  ∃ (its:List Value) (n:Nat),Vals xs its/\s.heap.get? p=some { cls:=.type "list",data:=.seq its.toArray n }/\xs.length<=sizeLine:=by
 obtain⟨z,its,n,r,e⟩:=I.hok p _ h
 exact⟨its,n,r,e,z⟩
theorem Inv.lstUpd{pins:List (Addr×Obj)}{σ:St}{H:Hp}{s:Shared}{p:Addr}{xs ys:List V}{its its':List Value}{n n':Nat}{f:Obj->Obj}(I:Inv X pins σ H s)(h:H p=some (.lst xs))
  (ho:s.heap.get? p=some { cls:=.type "list",data:=.seq its.toArray n }) (hf:f { cls:=.type "list",data:=.seq its.toArray n } = { cls:=.type "list",data:=.seq its'.toArray n' }) (r:Vals ys its') (hz:ys.length<=sizeLine) (t:Nat) :
  Inv X pins σ (upd H p (.lst ys)) { s with heap:=s.heap.update p f,toks:=t }:=by
 have e:(s.heap.update p f).get? p=some { cls:=.type "list",data:=.seq its'.toArray n' }:=by
  rw[Heap.get?_update_self f ho (by rw[hf] <;> rfl),hf]
 refine I.write (x:=p) (e:=p) (by rw[h];trivial) (.inl rfl) (fun b u hb q=>(Heap.get?_update_other _ _ (Ne.symm hb)).trans q) ⟨_,e⟩ ?_
 exact⟨hz,its',n',r,e⟩
noncomputable def rSetL:V->V->V->Hp->(Hp->Prop)->Prop:=fun o i v H Q=>∃ p xs k j,o = .ref p/\i = .int k/\H p=some (.lst xs)/\ixN xs.length k=some j/\Q (upd H p (.lst (xs.set j v)))
theorem set_list:PSet X rSetL:=by
 intro pins s σ H o i v ov iv u Q I ro ri rv h
 obtain⟨p,xs,k,j,rfl,rfl,hp,hj,q⟩:=h
 cases ro
 obtain⟨t,rfl⟩:=ri
 obtain⟨its,n,r,ho,hz⟩:=I.lst hp
 obtain⟨h1,h2,h3,h4⟩:=ixN_seq hj
 have hl:=r.length
 have hn:=line63
 have I':Inv X pins σ (upd H p (.lst (xs.set j v))) { s with heap:=s.heap.update p (Obj.mapSeq (·.setIfInBounds j u)) } :=
  I.lstUpd hp ho (mapSeq_set its n j u) (r.set rv j) (by rw[List.length_set];exact hz) s.toks
 by_cases h0:0<=k
 ·have hk:k.toNat=j:=by
   rw[seqIndex_of h0 h4]at h1
   exact Option.some.inj h1
  exact PySem.W.ki_setAt ho h0 (by lia) (by rw[List.size_toArray,<- hl];exact h4) (by rw[hk];exact⟨_,I',q⟩)
 ·have hk:(k+(its.toArray.size:Int)).toNat=j:=by
   rw[seqIndex_neg (by lia) h3]at h1
   rw[List.size_toArray,<- hl]
   exact Option.some.inj h1
  exact PySem.W.ki_setBack ho (by lia) (by rw[List.size_toArray,<- hl];exact h3) (by lia) (by rw[hk];exact⟨_,I',q⟩)
theorem slice_bounds(lo hi:Option Int)(n:Nat):(sliceBounds lo hi none n).1=((HT.sIx n 0 lo:Nat):Int)/\(sliceBounds lo hi none n).2.1=((HT.sIx n n hi:Nat):Int)/\(sliceBounds lo hi none n).2.2=1:=by
 refine⟨?_,?_,rfl⟩
 ·cases lo with
  |none=>simp[sliceBounds,HT.sIx]
  |some i =>
   simp only[sliceBounds,HT.sIx,Option.getD_none,show(1:Int) > 0 by decide,if_true]
   by_cases h:i<0
   ·simp only[h,if_true] <;> lia
   ·simp only[h,if_false] <;> lia
 ·cases hi with
  |none=>simp[sliceBounds,HT.sIx]
  |some i =>
   simp only[sliceBounds,HT.sIx,Option.getD_none,show(1:Int) > 0 by decide,if_true]
   by_cases h:i<0
   ·simp only[h,if_true] <;> lia
   ·simp only[h,if_false] <;> lia
theorem slicePick_cut(its:List Value)(lo hi:Option Int):slicePick its.toArray lo hi none=((its.drop (HT.sIx its.length 0 lo)).take (HT.sIx its.length its.length hi-HT.sIx its.length 0 lo)).toArray:=by
 obtain⟨h1,h2,h3⟩:=slice_bounds lo hi its.toArray.size
 unfold slicePick
 rw[h1,h2,h3]
 simp only[sliceRange_one,pick_run,List.size_toArray] <;> rfl
noncomputable def rSlL(K:PySem.W.Frag):V->Option Int->Option Int->Hp->VK->Prop:=fun x lo hi H Q=>∃ a xs,x = .ref a/\SqL K H a xs/\∀ p,H p=none->Q (.ref p) (upd H p (.lst (cutV xs lo hi)))
theorem sl_list:SlR X (rSlL X.K):=by
 intro pins s σ H x v vl vu lo hi sl Q I rx hs pl pu h
 obtain⟨a,xs,rfl,hx,q⟩:=h
 cases rx
 obtain⟨its,r,ht,hz⟩:=I.list hx
 have hlen:=r.length
 refine⟨"list",_,slot_list_getitem.lookup,ht.isList.typeIs,?_⟩
 refine wpAny_getItem_list_slice ht.isList hs pl pu .none (by simp) ?_ (by rw[List.size_toArray] <;> lia)
 rw[slicePick_cut,<- hlen]
 refine⟨.ref s.heap.objs.size,_,I.laid (t':=s.toks) (o:=.lst (cutV xs lo hi)) (fun b ob q=>Heap.get?_push_of_some _ q) (Nat.le_refl _) ?_,rfl,q _ (I.hok.fresh (Nat.le_refl _))⟩
 exact⟨Nat.le_trans (cutV_length xs lo hi) hz,_,0,(r.drop (HT.sIx xs.length 0 lo)).take (HT.sIx xs.length xs.length hi-HT.sIx xs.length 0 lo),Heap.get?_push_size _ rfl⟩
noncomputable def flatV:V->Bool
 | .non=>true
 | .bl _=>true
 | .int _=>true
 | .str _=>true
 | _=>false
noncomputable def eqV:V->V->Bool
 | .non,.non=>true
 | .bl a,.bl b=>a == b
 | .bl a,.int b=>(if a then 1 else 0) == b
 | .int a,.bl b=>a ==(if b then 1 else 0)
 | .int a,.int b=>a == b
 | .str a,.str b=>a == b
 | _,_=>false
theorem eqAt_V{A:Around}{s:Shared}{y x:V}{u v:Value}(ry:RelV y u)(rx:RelV x v)(fy:flatV y=true)(fx:flatV x=true):SeqAt.EqAt A s u v (eqV y x):=by
 cases y with
 |non =>
  cases ry
  cases x with
  |non=>cases rx;exact SeqAt.EqAt.same _
  |bl b=>cases rx;exact SeqAt.EqAt.none_bool b
  |int b=>obtain⟨t,rfl⟩:=rx;exact SeqAt.EqAt.none_int b t
  |str b=>obtain⟨t,rfl⟩:=rx;exact SeqAt.EqAt.none_str b t
  | _=>exact absurd (show false=true from fx) Bool.false_ne_true
 |bl a =>
  cases ry
  cases x with
  |non=>cases rx;exact SeqAt.EqAt.bool_none a
  |bl b=>cases rx;exact SeqAt.EqAt.bool_bool a b
  |int b=>obtain⟨t,rfl⟩:=rx;exact SeqAt.EqAt.bool_int a b t
  |str b=>obtain⟨t,rfl⟩:=rx;exact SeqAt.EqAt.bool_str a b t
  | _=>exact absurd (show false=true from fx) Bool.false_ne_true
 |int a =>
  obtain⟨t',rfl⟩:=ry
  cases x with
  |non=>cases rx;exact SeqAt.EqAt.int_none a t'
  |bl b=>cases rx;exact SeqAt.EqAt.int_bool a t' b
  |int b=>obtain⟨t,rfl⟩:=rx;exact SeqAt.EqAt.int_int a t' b t
  |str b=>obtain⟨t,rfl⟩:=rx;exact SeqAt.EqAt.int_str a t' b t
  | _=>exact absurd (show false=true from fx) Bool.false_ne_true
 |str a =>
  obtain⟨t',rfl⟩:=ry
  cases x with
  |non=>cases rx;exact SeqAt.EqAt.str_none a t'
  |bl b=>cases rx;exact SeqAt.EqAt.str_bool a t' b
  |int b=>obtain⟨t,rfl⟩:=rx;exact SeqAt.EqAt.str_int a t' b t
  |str b=>obtain⟨t,rfl⟩:=rx;exact SeqAt.EqAt.str_str a t' b t
  | _=>exact absurd (show false=true from fx) Bool.false_ne_true
 | _=>exact absurd (show false=true from fy) Bool.false_ne_true
noncomputable def eqU(x:V)(u:Value):Bool:=match u with
 | .none=>eqV .non x
 | .bool b=>eqV (.bl b) x
 | .int i _=>eqV (.int i) x
 | .str z _=>eqV (.str z) x
 | _=>false
theorem eqU_of{x y:V}{u:Value}(r:RelV y u)(f:flatV y=true):eqU x u=eqV y x:=by
 cases y with
 |non=>cases r;rfl
 |bl b=>cases r;rfl
 |int i=>obtain⟨t,rfl⟩:=r;rfl
 |str z=>obtain⟨t,rfl⟩:=r;rfl
 | _=>exact absurd (show false=true from f) Bool.false_ne_true
theorem any_eqU{x:V}:∀ {xs:List V}{us:List Value},Vals xs us->xs.all flatV=true->us.any (eqU x)=xs.any fun y=>eqV y x
 | _,_,.nil,_=>rfl
 |y :: xs,u :: us,.cons r t,f=>by
  rw[List.all_cons,Bool.and_eq_true]at f
  rw[List.any_cons,List.any_cons,eqU_of r f.1,any_eqU t f.2]
theorem mem_eqAt{A:Around}{s:Shared}{x:V}{v:Value}(rx:RelV x v)(fx:flatV x=true):∀ {xs:List V}{us:List Value},Vals xs us->xs.all flatV=true->∀ u∈us,SeqAt.EqAt A s u v (eqU x u)
 | _,_,.nil,_=>fun u hu=>by cases hu
 |y :: xs,u :: us,.cons r t,f=>fun u' hu=>by
  rw[List.all_cons,Bool.and_eq_true]at f
  rcases List.mem_cons.mp hu with rfl | hu
  ·rw[eqU_of r f.1];exact eqAt_V r rx f.1 fx
  ·exact mem_eqAt rx fx t f.2 u' hu
noncomputable def inV(x:V)(xs:List V):Bool:=xs.any fun y=>eqV y x
noncomputable def rIn(K:PySem.W.Frag)(neg:Bool):R2:=fun x y H Q=>∃ p xs,y = .ref p/\(SqL K H p xs\/SqT K H p xs)/\flatV x=true/\xs.all flatV=true/\Q (.bl (if neg then !inV x xs else inV x xs)) H
theorem op_in_seq:OpR X (compareOp .In) (rIn X.K false):=by
 intro pins s σ H x y v u Q I rx ry h
 obtain⟨p,xs,rfl,hq,fx,fs,q⟩:=h
 cases ry
 rcases hq with hq | hq
 ·obtain⟨its,r,pl,hz⟩:=I.list hq
  refine SeqAt.in_listAt (eqU x) pl.isList (fun w hw=>mem_eqAt rx fx r fs w (by simpa using hw)) ⟨.bl _,H,I,rfl,?_⟩
  rw[show its.toArray.any (eqU x)=its.any (eqU x) by simp,any_eqU r fs]
  exact q
 ·obtain⟨its,r,pl,hz⟩:=I.tuple hq
  refine SeqAt.in_tupleAt (eqU x) pl (fun w hw=>mem_eqAt rx fx r fs w (by simpa using hw)) ⟨.bl _,H,I,rfl,?_⟩
  rw[show its.toArray.any (eqU x)=its.any (eqU x) by simp,any_eqU r fs]
  exact q
theorem op_notIn_seq:OpR X (compareOp .NotIn) (rIn X.K true):=by
 intro pins s σ H x y v u Q I rx ry h
 obtain⟨p,xs,rfl,hq,fx,fs,q⟩:=h
 cases ry
 rcases hq with hq | hq
 ·obtain⟨its,r,pl,hz⟩:=I.list hq
  refine SeqAt.notIn_listAt (eqU x) pl.isList (fun w hw=>mem_eqAt rx fx r fs w (by simpa using hw)) ⟨.bl _,H,I,rfl,?_⟩
  rw[show its.toArray.any (eqU x)=its.any (eqU x) by simp,any_eqU r fs]
  exact q
 ·obtain⟨its,r,pl,hz⟩:=I.tuple hq
  refine SeqAt.notIn_tupleAt (eqU x) pl (fun w hw=>mem_eqAt rx fx r fs w (by simpa using hw)) ⟨.bl _,H,I,rfl,?_⟩
  rw[show its.toArray.any (eqU x)=its.any (eqU x) by simp,any_eqU r fs]
  exact q
theorem call_len_seq:CallR X (.builtin "len") (fun xs H Q=>∃ p ys,xs=[.ref p]/\(SqL X.K H p ys\/SqT X.K H p ys)/\Q (.int ys.length) H):=by
 intro pins s σ H xs us Q I r h
 obtain⟨p,ys,rfl,hq,q⟩:=h
 obtain⟨u,rfl,rx⟩:=vals1 r
 cases rx
 have hn:=line63
 rcases hq with hq | hq
 ·obtain⟨its,r',pl,hz⟩:=I.list hq
  have hlen:=r'.length
  exact Calls.call_len_list pl.isList (by simp only[List.size_toArray] <;> lia) ⟨.int ys.length,H,I.tok _,⟨s.toks+1,by rw[List.size_toArray,hlen]⟩,q⟩
 ·obtain⟨its,r',pl,hz⟩:=I.tuple hq
  have hlen:=r'.length
  exact len_tuple pl (by simp only[List.size_toArray] <;> lia) ⟨.int ys.length,H,I.tok _,⟨s.toks+1,by rw[List.size_toArray,hlen]⟩,q⟩
theorem call_list_of:CallR X (.type "list") (fun xs H Q=>∃ p ys,xs=[.ref p]/\(SqL X.K H p ys\/SqT X.K H p ys)/\∀ l,H l=none->Q (.ref l) (upd H l (.lst ys))):=by
 intro pins s σ H xs us Q I r h
 obtain⟨p,ys,rfl,hq,q⟩:=h
 obtain⟨u,rfl,rx⟩:=vals1 r
 cases rx
 have fin:∀ (its:List Value),Vals ys its->ys.length<=sizeLine->∀ (h':Heap) (c':Nat),(∀ b o',s.heap.get? b=some o'->h'.get? b=some o') ->
   h'.get? s.heap.objs.size=some { cls:=.type "list",dict:=none,data:=.seq its.toArray c',slots:=#[] }->EP X pins σ Q (.ref s.heap.objs.size) { s with heap:=h' }:=fun its r' hz h' c' kp e =>
  ⟨.ref s.heap.objs.size,_,I.laid (t':=s.toks) kp (Nat.le_refl _) (show ObjOk X.prog X.w _ h' _ (.lst ys)from⟨hz,its,c',r',e⟩),rfl,q _ (I.hok.fresh (Nat.le_refl _))⟩
 rcases hq with hq | hq
 ·obtain⟨its,r',pl,hz⟩:=I.list hq
  have hlen:=r'.length
  obtain⟨o,ho,hc,n,hd⟩:=pl.isList
  exact call_list_seq p (.inl rfl) ho hc hd (fun h' c' kp e=>fin its r' hz h' c' kp e) (by simp only[List.size_toArray] <;> lia)
 ·obtain⟨its,r',pl,hz⟩:=I.tuple hq
  have hlen:=r'.length
  obtain⟨o,ho,hc,n,hd⟩:=pl
  exact call_list_seq p (.inr rfl) ho hc hd (fun h' c' kp e=>fin its r' hz h' c' kp e) (by simp only[List.size_toArray] <;> lia)
theorem call_tuple_of:CallR X (.type "tuple") (fun xs H Q=>∃ p ys,xs=[.ref p]/\((SqL X.K H p ys/\∀ l,H l=none->Q (.ref l) (upd H l (.tup ys)))\/(SqT X.K H p ys/\Q (.ref p) H))):=by
 intro pins s σ H xs us Q I r h
 obtain⟨p,ys,rfl,h⟩:=h
 obtain⟨u,rfl,rx⟩:=vals1 r
 cases rx
 rcases h with⟨hq,q⟩ |⟨hq,q⟩
 ·obtain⟨its,r',pl,hz⟩:=I.list hq
  have hlen:=r'.length
  refine call_tuple_list pl.isList (fun h' kp=>?_) (by simp only[List.size_toArray] <;> lia)
  have I1:Inv X pins σ H { s with heap:=h' }:=I.kept (t':=s.toks) kp
  have I2:Inv X pins σ (upd H h'.objs.size (.tup ys)) { s with heap:=h'.push { cls:=.type "tuple",data:=.seq its.toArray } } :=
   I1.laid (t':=s.toks) (fun b o e=>Heap.get?_push_of_some _ e) (Nat.le_refl _) (show ObjOk X.prog X.w _ _ _ (.tup ys)from⟨hz,its,r',IsTup.new _ _⟩)
  exact⟨.ref h'.objs.size,_,I2,rfl,q _ (I1.hok.fresh (Nat.le_refl _))⟩
 ·obtain⟨its,r',pl,hz⟩:=I.tuple hq
  exact call_tuple_same pl ⟨.ref p,H,I,rfl,q⟩
noncomputable def tyV(K:PySem.W.Frag)(T:String)(x:V)(H:Hp):Prop:=match x with
 | .str _=>T = "str"
 | .int _=>T = "int"
 | .ref p=>(T = "list"/\∃ xs,SqL K H p xs)\/(T = "tuple"/\∃ o,K.lookup p=some o/\o.cls = .type "tuple"/\o.dict=none) \/
   (T = "dict"/\((∃ kvs,H p=some (.dK kvs))\/∃ kvs,H p=some (.dT kvs)))\/(T = "set"/\∃ S n,H p=some (.set S n))
 | _=>False
theorem tyV_is{pins:List (Addr×Obj)}{σ:St}{H:Hp}{s:Shared}{T:String}{x:V}{v:Value}(I:Inv X pins σ H s)(r:RelV x v)(ty:tyV X.K T x H) :
  s.TypeIs v T/\∀ a,v = .ref a->∃ ob,s.heap.get? a=some ob/\ob.dict=none:=by
 cases x with
 |str z =>
  obtain⟨t,rfl⟩:=r
  cases(show T = "str" from ty)
  exact⟨typeIs_str s z t,fun _ e=>nomatch e⟩
 |int i =>
  obtain⟨t,rfl⟩:=r
  cases(show T = "int" from ty)
  exact⟨typeIs_int s i t,fun _ e=>nomatch e⟩
 |ref p =>
  cases r
  rcases ty with⟨rfl,xs,hq⟩ |⟨rfl,o,hk,hc,hd⟩ |⟨rfl,hk⟩ |⟨rfl,S,n,hk⟩
  ·obtain⟨its,_,pl,_⟩:=I.list hq
   refine⟨pl.isList.typeIs,fun a e=>?_⟩
   cases e
   obtain⟨o,n,e,c,hd,_⟩:=pl
   exact⟨o,e,hd⟩
  ·refine⟨⟨o,I.kIn p o hk,hc⟩,fun a e=>?_⟩
   cases e
   exact⟨o,I.kIn _ o hk,hd⟩
  ·have z:∃ o,s.heap.get? p=some o/\o.ExactDict:=by
    rcases hk with⟨kvs,hk⟩ |⟨kvs,hk⟩
    ·obtain⟨_,_,_,_,o,_,_,e,ex,_⟩:=I.hok p _ hk
     exact⟨o,e,ex⟩
    ·obtain⟨_,_,_,_,o,_,_,e,ex,_⟩:=I.hok p _ hk
     exact⟨o,e,ex⟩
   obtain⟨o,e,ex⟩:=z
   refine⟨⟨o,e,ex.1⟩,fun a e2=>?_⟩
   cases e2
   exact⟨o,e,ex.2.1⟩
  ·obtain⟨o,_,_,_,e,ex,_⟩:=I.hok p _ hk
   refine⟨⟨o,e,ex.1⟩,fun a e2=>?_⟩
   cases e2
   exact⟨o,e,ex.2.1⟩
 | _=>exact False.elim ty
noncomputable def tBM(K:PySem.W.Frag)(T:String)(r:V->List V->Hp->VK->Prop)(to:TE)(t:TA):TE:=fun σ H Q=>to σ H fun x H1=>tyV K T x H1/\t σ H1 fun xs H2=>r x xs H2 Q
variable{o e:Expr}{es:List Expr}{to:TE}{t:TA}{name:Str}{apos cpos:Pos}{T id:String}{r:V->List V->Hp->VK->Prop}
theorem pe_bm(pa:PlainAttrs T)(slot:Slot T name id)(hty:typeOf (.builtin id)=pure (.type "method_descriptor"))(hm:MtR X id r)(ho:PE X o to)(ha:PA X (e :: es) t)
  (hbase:attributeBase o name X.env (eval o X.env)=eval o X.env:=by rfl)
  (hfew:((backTo cpos (starEach (e :: es) X.env)).all (fun x=>!x.1) && (backToKw cpos (keywordEach [] X.env)).all (fun x=>x.1.isSome)
   && decide ((e :: es).length+([]:List Keyword).length+(if([]:List Keyword).isEmpty then 0 else 1)<30))=true:=by rfl)
  (hline:(apos.endLine == cpos.line)=true:=by rfl) (hs:starEach (e :: es) X.env=(false,eval e X.env) :: starEach es X.env:=by rfl) (hplain:(backTo cpos (starEach es X.env)).any (·.1)=false:=by rfl) :
  PE X (.Call (.Attribute o name apos) (e :: es) [] cpos) (tBM X.K T r to t):=by
 intro pins s σ H Q I h
 refine wpAny_Call_method_late hbase hfew hline rfl (thn (ho pins s σ H _ I h) fun v s1 ⟨x,H1,I1,r1,ty,q1⟩=>?_)
 obtain⟨h1,h2⟩:=tyV_is I1 r1 ty
 refine⟨T,id,pa,slot,hty,h1,h2,?_⟩
 have hA:=ha cpos pins s1 σ H1 _ I1 q1
 rw[hs]at hA ⊢
 refine Calls.callWith_builtin (by show(false ||(backTo cpos (starEach es X.env)).any (·.1))=false;rw[hplain] <;> rfl) (Calls.evalArgs_plain ?_)
 exact thn hA fun us s2 ⟨vs,H2,I2,r2,q2⟩=>hm pins s2 σ H2 x vs v us Q I2 r1 r2 q2
end
open PySem PySem.Spec PyProof.Rows
noncomputable def MtM(X:Cx)(id:String)(r:V->List V->Hp->VK->Prop):Prop :=
 ∀ (pins:List (Addr×Obj)) (s:Shared) (σ:St) (H:Hp) (x:V) (xs:List V) (v:Value) (us:List Value) (Q:VK),Inv X pins σ H s->RelV x v->Vals xs us->r x xs H Q ->
  wpAny (model X.prog X.w) X.A (call (.builtin id) (v :: us)) (EP X pins σ Q) X.xe s
theorem Vals.one{x:V}{us:List Value}(h:Vals [x] us):∃ u,us=[u]/\RelV x u:=by
 cases h with | cons r q=>cases q;exact⟨_,rfl,r⟩
theorem Vals.two{x y:V}{us:List Value}(h:Vals [x,y] us):∃ u v,us=[u,v]/\RelV x u/\RelV y v:=by
 cases h with | cons r q=>cases q with | cons q z=>cases z;exact⟨_,_,rfl,r,q⟩
theorem Vals.zero:∀ {us:List Value},Vals [] us->us=[]
 | _,.nil=>rfl
theorem Vals.dropLast{xs:List V}{us:List Value}(h:Vals xs us):Vals xs.dropLast us.dropLast:=by
 induction h with
 |nil=>exact .nil
 |cons r t ih =>
  cases t with
  |nil=>exact .nil
  |cons q t'=>exact .cons r ih
theorem Vals.eraseIdx:∀ {xs:List V}{us:List Value} (i:Nat),Vals xs us->Vals (xs.eraseIdx i) (us.eraseIdx i)
 | _,_,_,.nil=>.nil
 | _,_,0,.cons _ t=>t
 | _,_,i+1,.cons r t=>.cons r (Vals.eraseIdx i t)
theorem Vals.reverse{xs:List V}{us:List Value}(h:Vals xs us):Vals xs.reverse us.reverse:=by
 induction h with
 |nil=>exact .nil
 |cons r t ih=>rw[List.reverse_cons,List.reverse_cons];exact Vals.append ih (.cons r .nil)
theorem erase_last{α:Type}(l:List α):l.eraseIdx (l.length-1)=l.dropLast:=by
 induction l with
 |nil=>rfl
 |cons a r ih =>
  cases r with
  |nil=>rfl
  |cons b r =>
   have e:(a :: b :: r).length-1=((b :: r).length-1)+1:=by
    have h1:(a :: b :: r).length=r.length+2:=rfl
    have h2:(b :: r).length=r.length+1:=rfl
    lia
   rw[e,List.eraseIdx_cons_succ,ih]
   all_goals rfl
theorem len_erase{α:Type}:∀ (l:List α) (i:Nat),(l.eraseIdx i).length<=l.length
 |[],_=>Nat.le_refl _
 | _ :: _,0=>Nat.le_succ _
 | _ :: r,i+1=>Nat.succ_le_succ (len_erase r i)
section
variable{X:Cx}{pins:List (Addr×Obj)}{σ:St}{H:Hp}{s:Shared}{l b:Addr}{xs ys zs:List V}
theorem Inv.lset{its its':List Value}{n:Nat}{f:Array Value->Array Value}{t':Nat}(I:Inv X pins σ H s)(hH:H l=some (.lst xs))
  (e:s.heap.get? l=some { cls:=.type "list",data:=.seq its.toArray n }) (hf:f its.toArray=its'.toArray) (hv:Vals ys its') (hz:ys.length<=sizeLine) :
  Inv X pins σ (upd H l (.lst ys)) { s with heap:=s.heap.update l (Obj.mapSeq f),toks:=t' }:=by
 have q:=PySem.IsL.update e f
 rw[hf]at q
 refine I.write (x:=l) (e:=l) (by rw[hH];exact trivial) (.inl rfl) (fun b' u hb hu=>(Heap.get?_update_other s.heap (Obj.mapSeq f) (Ne.symm hb)).trans hu) ⟨_,q⟩ ?_
 exact⟨hz,its',_,hv,q⟩
theorem Inv.lstM(I:Inv X pins σ H s)(hH:H l=some (.lst xs)):xs.length<=sizeLine/\∃ (its:List Value) (n:Nat),Vals xs its/\xs.length=its.length/\s.heap.get? l=some { cls:=.type "list",data:=.seq its.toArray n }:=by
 obtain⟨z,its,n,r,e⟩:=I.hok l _ hH
 exact⟨z,its,n,r,r.length,e⟩
theorem notLongL{n:Nat}(h:n<=sizeLine):Builtin.List.listTooLong n=false:=by
 unfold Builtin.List.listTooLong
 exact decide_eq_false (by lia)
end
section
variable{X:Cx}
noncomputable def rAppend:V->List V->Hp->VK->Prop:=fun x vs H Q=>∃ l xs y,x = .ref l/\vs=[y]/\H l=some (.lst xs)/\xs.length<sizeLine/\Q .non (upd H l (.lst (xs++[y])))
theorem mt_append:MtM X "list.append" rAppend:=by
 intro pins s σ H x vs v us Q I rx rv h
 obtain⟨l,xs,y,rfl,rfl,hH,hz,q⟩:=h
 cases rx
 obtain⟨u,rfl,ru⟩:=rv.one
 obtain⟨z,its,n,r,hl,e⟩:=I.lstM hH
 refine call_meets F.slot_list_append ⟨_,e,rfl⟩ F.entry_list_append (F.args_list_append_2 _ _) (PySem.list_append l its.toArray n u (by rw[List.size_toArray];lia)) ⟨e,?_⟩
 refine⟨.non,_,I.lset (its':=its++[u]) hH e (by simp) (r.append (.cons ru .nil)) ?_,rfl,q⟩
 rw[List.length_append,List.length_singleton]
 lia
noncomputable def rExtend:V->List V->Hp->VK->Prop:=fun x vs H Q=>∃ l b xs zs,x = .ref l/\vs=[.ref b]/\H l=some (.lst xs)/\H b=some (.lst zs)/\xs.length+zs.length<=sizeLine/\Q .non (upd H l (.lst (xs++zs)))
theorem mt_extend:MtM X "list.extend" rExtend:=by
 intro pins s σ H x vs v us Q I rx rv h
 obtain⟨l,b,xs,zs,rfl,rfl,hH,hB,hz,q⟩:=h
 cases rx
 obtain⟨u,rfl,ru⟩:=rv.one
 cases ru
 obtain⟨z,its,n,r,hl,e⟩:=I.lstM hH
 obtain⟨z2,its2,n2,r2,hl2,e2⟩:=I.lstM hB
 have hsz:its.toArray.size+its2.toArray.size<=sizeLine:=by rw[List.size_toArray,List.size_toArray];omega
 have hlong:¬(!its.toArray.isEmpty && Builtin.List.listTooLong (its.toArray.size+its2.toArray.size))=true:=by
  rw[notLongL hsz,Bool.and_false]
  exact Bool.false_ne_true
 refine call_meets F.slot_list_extend ⟨_,e,rfl⟩ F.entry_list_extend (F.args_list_extend_2 _ _)
  (AutoSeq1.list_extend_list_list_0 l its.toArray n b its2.toArray n2 hlong (by rw[List.size_toArray];omega) (by omega)) ⟨e,e2,?_⟩
 refine⟨.non,_,I.lset (its':=its++its2) hH e (by simp) (r.append r2) ?_,rfl,q⟩
 rw[List.length_append]
 omega
noncomputable def rPop:V->List V->Hp->VK->Prop:=fun x vs H Q=>∃ l xs y,x = .ref l/\vs=[]/\H l=some (.lst xs)/\xs[xs.length-1]?=some y/\Q y (upd H l (.lst xs.dropLast))
theorem mt_pop:MtM X "list.pop" rPop:=by
 intro pins s σ H x vs v us Q I rx rv h
 obtain⟨l,xs,y,rfl,rfl,hH,hy,q⟩:=h
 cases rx
 have hus:=rv.zero
 subst hus
 obtain⟨z,its,n,r,hl,e⟩:=I.lstM hH
 obtain⟨u,hu,ru⟩:=r.get hy
 have hy':its.toArray[its.toArray.size-1]?=some u:=by
  show its.toArray[its.length-1]?=some u
  rw[<- Array.getElem?_toList,<- hl]
  exact hu
 refine call_meets F.slot_list_pop ⟨_,e,rfl⟩ F.entry_list_pop (F.args_list_pop_1 _) (MeetsSeq.list_pop_last l its.toArray n u hy' (by rw[List.size_toArray];lia)) ⟨e,?_⟩
 refine⟨y,_,I.lset (its':=its.dropLast) hH e ?_ r.dropLast ?_,ru,q⟩
 ·show its.toArray.eraseIdxIfInBounds (its.toArray.size-1)=its.dropLast.toArray
  rw[List.size_toArray,List.eraseIdxIfInBounds_toArray,erase_last]
 ·rw[List.length_dropLast]
  omega
noncomputable def rPopAt:V->List V->Hp->VK->Prop:=fun x vs H Q=>∃ l xs i k y,x = .ref l/\vs=[.int i]/\H l=some (.lst xs)/\-(2 ^ 63)<=i/\i<2 ^ 63/\seqIndex? i xs.length=some k/\xs[k]?=some y/\Q y (upd H l (.lst (xs.eraseIdx k)))
theorem mt_popAt:MtM X "list.pop" rPopAt:=by
 intro pins s σ H x vs v us Q I rx rv h
 obtain⟨l,xs,i,k,y,rfl,rfl,hH,h1,h2,hk,hy,q⟩:=h
 cases rx
 obtain⟨u,rfl,ru⟩:=rv.one
 obtain⟨t,rfl⟩:=ru
 obtain⟨z,its,n,r,hl,e⟩:=I.lstM hH
 obtain⟨w,hw,rw'⟩:=r.get hy
 refine call_meets F.slot_list_pop ⟨_,e,rfl⟩ F.entry_list_pop (F.args_list_pop_2 _ _)
  (MeetsSeq.list_pop_at l its.toArray n i t k w (fitsIndex_both h1 h2) (by rw[List.size_toArray,<- hl];exact hk) (by rw[<- Array.getElem?_toList];exact hw) (by rw[List.size_toArray];lia)) ⟨e,?_⟩
 refine⟨y,_,I.lset (its':=its.eraseIdx k) hH e ?_ (r.eraseIdx k) ?_,rw',q⟩
 ·show its.toArray.eraseIdxIfInBounds k=(its.eraseIdx k).toArray
  rw[List.eraseIdxIfInBounds_toArray]
 ·have:=len_erase xs k
  lia
noncomputable def rReverse:V->List V->Hp->VK->Prop:=fun x vs H Q=>∃ l xs,x = .ref l/\vs=[]/\H l=some (.lst xs)/\Q .non (upd H l (.lst xs.reverse))
theorem mt_reverse:MtM X "list.reverse" rReverse:=by
 intro pins s σ H x vs v us Q I rx rv h
 obtain⟨l,xs,rfl,rfl,hH,q⟩:=h
 cases rx
 have hus:=rv.zero
 subst hus
 obtain⟨z,its,n,r,hl,e⟩:=I.lstM hH
 refine call_meets F.slot_list_reverse ⟨_,e,rfl⟩ F.entry_list_reverse (F.args_list_reverse_1 _) (AutoSeq1.list_reverse_list_0 l its.toArray n (by rw[List.size_toArray];omega)) ⟨e,?_⟩
 refine⟨.non,_,I.lset (its':=its.reverse) hH e (by simp) r.reverse ?_,rfl,q⟩
 rw[List.length_reverse]
 omega
end
end L2
namespace Att
open PySem PySem.W PySem.Calls PyProof.Rows
theorem ints_of_wellAll{P:Params}{h:Heap}:∀ (ns:List Int) (vs:List Value),WellAll P h vs (ns.map WData.int)->IntsAre vs ns:=by
 intro ns
 induction ns with
 |nil =>
  intro vs w
  rw[List.map_nil]at w
  cases w
  exact .nil
 |cons n ns ih =>
  intro vs w
  rw[List.map_cons]at w
  cases w with
  |cons a b =>
   cases a
   exact .cons _ _ (ih _ b)
theorem script_of{l:OpenLaw}{n:Nat}(hn:l.most=some n){P:Params}{h:Heap}{args:List WData}{vals:List Value}
  (hpre:l.row.toRowW.claim.pre args=true) (hwl:WellAll P h vals args) :
  ∃ a vs ns,vals=[Value.ref a]/\args=[WData.list (ns.map WData.int)]/\h.get? a=some { cls:=.type "list",data:=.seq vs.toArray }/\IntsAre vs ns/\ns.length<=n:=by
 have hsh:WShape.hasAll [] args [.list .int]=true:=(pre_splitW hpre).1
 have hc:l.pre.holds [] { args:=args } = true:=(pre_splitW hpre).2
 obtain⟨d,r,rfl,h1,h2⟩:=hasAllW_cons hsh
 obtain rfl:=hasAllW_nil h2
 obtain⟨xs,rfl,h3⟩:=hasW_list h1
 obtain⟨ns,rfl⟩:=items_int h3
 have hlen:ns.length<=n:=by
  unfold OpenLaw.pre at hc
  have h4:(WTm.not (.lt (.lit (.int (n:Int))) (.len (.arg 0)))).holds [] { args:=[.list (ns.map .int)] } = true:=by
   have h4:=(holds_andW hc).1
   rw[hn]at h4
   exact h4
  have h5:=condW_of h4 (w_not (w_lt w_lit (w_len_list (w_arg rfl))))
  rw[List.length_map]at h5
  refine Nat.le_of_not_lt fun q=>?_
  have q':(n:Int) <((ns.length:Nat):Int):=by omega
  first
   |(rw[decide_eq_true q']at h5;exact absurd h5 (by decide))
   |(simp at h5;omega)
 cases hwl with
 |cons w1 w2 =>
  cases w2
  cases w1 with
  |list ho hall=>exact⟨_,_,ns,rfl,rfl,ho,ints_of_wellAll ns _ hall,hlen⟩
theorem post_true(l:OpenLaw)(args:List WData):l.row.toRowW.claim.post args (.bool true) args=true :=
 postW_of (r:=l.row.toRowW) (X:=(true == true))
  (show WShape.has [] (.bool true) .bool=true by first | rfl | decide | simp[WShape.has,WShape.arms,WShape.armsAll])
  (show(WTm.eq .res (.lit (.bool true))).value [] { args:=args,res:=some (.bool true),after:=args } = some (.bool (true == true))from w_eq_bool (w_res rfl) w_lit) rfl
theorem attach_call{l:OpenLaw}{n:Nat}{q:Program}{loose:List Str}{XP:(Str->Option Value)->Heap->Prop}{YP:World->Heap->Prop}{d:DefRec}
  (hn:l.most=some n) (hdf:d.params.defaults=[])
  (call:∀ (w:World) (s₀ s₁:Shared) (mg mb:Str->Option Value) (fa:Addr) (o:Obj) (pm cd doc:Value) (a:Addr) (vs:List Value) (ns:List Int),
   Ground q loose [] XP w s₀ mg mb s₁.heap->YP w s₁.heap ->
   s₁.heap.get? fa=some o->o.data = .func (docDef d.name d.params d.body d.scope pm cd doc)->s₁.heap.CodeRec cd d.name->mg d.name=some (.ref fa) ->
   s₁.heap.get? a=some { cls:=.type "list",data:=.seq vs.toArray }->IntsAre vs ns->ns.length<=n->s₁.gens = #[] ->
   codeAny (model l.prog w) callerA (.call (.ref fa) ⟨[.ref a],[]⟩) (fun r s'=>r = .ok (.ret (.bool true))/\OldK s₁.heap s'.heap/\s'.os=s₁.os/\AllBare s'.gens) s₁) :
  WalkO q loose XP YP l.row.toRowW d [] (fun f vs=>PySem.call f vs):=by
 intro w s₀ s₁ mg mb G Y fa o pm cd doc dV kV ho hd hcd hD hmg hg args vals as hpre hlay hrd hwl hlo
 obtain rfl:dV = .none:=Dflts.none hD hdf
 obtain rfl:kV = .none:=Dflts.noKw hD
 obtain⟨a,vs,ns,rfl,rfl,hobj,hints,hlen⟩:=script_of hn hpre hwl
 refine enter_call (codeAny_mono (call w s₀ s₁ mg mb fa o pm cd doc a vs ns G Y ho (fd_plain hd) hcd hmg hobj hints hlen hg) fun r s' hq=>?_)
 obtain⟨rfl,h2,h3,h4⟩:=hq
 exact⟨.inl ⟨.bool true,.bool true,[],rfl,fun _=>rfl,.bool true,post_true l _,fun _=>⟨List.Pairwise.nil,fun _ hm=>(nomatch hm)⟩⟩,h2,h3,h4⟩
end Att
namespace L2
open PySem PySem.Spec PyProof.Rows
theorem vals_ints:∀ {vs:List Value}{ns:List Int},IntsAre vs ns->Vals (ns.map V.int) vs
 | _,_,.nil=>.nil
 | _,_,.cons n t h=>.cons ⟨t,rfl⟩ (vals_ints h)
noncomputable def Only(H:Hp):Prop:=∀ b,H b=none\/∃ o xs,H b=some (.frz o (.lst xs))
theorem law_call{P:Program}{w:World}{K:PySem.W.Frag}{mg mb:Str->Option Value}{CX:CXT}{k:Nat}{fa a:Addr}{fd:FuncData}{x:Str}{sp:Sp}{s₁:Shared}{vs:List Value}{ns:List Int}
  (KX:K.In s₁.heap) (hns:s₁.heap.Ns mainGlobals mg) (hb:s₁.heap.Ns builtinsNs mb) (hbb:∀ x:Str,x≠"__name__"->mb x=bootBuiltins x) (hlim:s₁.heap.NoLimit) (hg:s₁.gens = #[])
  (ha:s₁.heap.get? a=some { cls:=.type "list",data:=.seq vs.toArray }) (hi:IntsAre vs ns) (hl:ns.length<=sizeLine) (hr:Room k callerA)
  (F:∀ base:Heap,K.In base->base.Ns mainGlobals mg->FnOk P w K mg base CX k fa fd [x] sp) (hbind:∀ (s:Shared) (u:Value),BindsTo s fd ⟨[u],[]⟩ [(x,u)])
  (hsp:∀ H:Hp,Only H->SqL K H a (ns.map V.int)->sp [.ref a] H (fun v _=>v = .bl true) fun _ _ _=>False)
  (hCX:∀ H e s',CX [] H s₁ (fun _ _ _=>False) e s'->False) :
  codeAny (model P w) callerA (.call (.ref fa) ⟨[.ref a],[]⟩) (fun r s'=>r = .ok (.ret (.bool true))/\OldK s₁.heap s'.heap/\s'.os=s₁.os/\AllBare s'.gens) s₁:=by
 have rv:=vals_ints hi
 have lenV:=hi.length
 -- from an abstract heap in which nothing but the script may be tracked
 have core:∀ H:Hp,Only H->SqL K H a (ns.map V.int)->HOk P w H s₁.heap->(∀ b,H b≠none->b=a)->(H a≠none->K.lookup a=none) ->
   codeAny (model P w) callerA (.call (.ref fa) ⟨[.ref a],[]⟩) (fun r s'=>r = .ok (.ret (.bool true))/\OldK s₁.heap s'.heap/\s'.os=s₁.os/\AllBare s'.gens) s₁:=by
  intro H hO hS hok hA hK
  have base_of:∀ {b:Addr}{o:Obj},s₁.heap.get? b=some o->H b=none->(hidT s₁.heap H).get? b=some o:=fun e n=>hidT_get e n
  have noA:∀ {b:Addr}{o:Obj}{es:Array DictEntry}{ep:Nat},s₁.heap.get? b=some o->o.data = .dict es ep->H b=none:=fun {b o es ep} e d=>by
   cases q:H b with
   |none=>rfl
   |some u =>
    have e':b=a:=hA b (by rw[q];simp)
    subst e'
    rw[ha]at e;cases e
    have d':Data.seq vs.toArray _=Data.dict es ep:=d
    cases d'
  have nsK:∀ {b:Addr}{m:Str->Option Value},s₁.heap.Ns b m->(hidT s₁.heap H).Ns b m:=fun {b m} ⟨o,es,ep,e,d,r⟩=>⟨o,es,ep,base_of e (noA e d),d,r⟩
  have hKb:K.In (hidT s₁.heap H):=fun b o e=>base_of (KX b o e) (by
   cases q:H b with
   |none=>rfl
   |some u =>
    have e':b=a:=hA b (by rw[q];simp)
    subst e'
    rw[hK (by rw[q];simp)]at e;cases e)
  have hM:Mod K mg (hidT s₁.heap H):=⟨hKb,nsK hns,⟨mb,nsK hb,hbb⟩,let ⟨mc,h1,h2⟩:=hlim;⟨mc,nsK h1,h2⟩⟩
  have e0:Env0 P w K mg (hidT s₁.heap H) callerA [] s₁ H:=⟨rfl,hM,fun b o e=>of_hidT e,Nat.le_of_eq (hidT_size _ _),trivial,fun b hb=>absurd (show b∈([]:List Addr)from hb) (by simp),hok,.of_eq hg⟩
  refine codeAny_mono ((F _ hKb (nsK hns)).run callerA [] s₁ H ⟨[.ref a],[]⟩ [.ref a] [.ref a] _ _ hr e0 (hbind s₁ (.ref a)) (.cons rfl .nil) (hsp H hO hS)) fun r s' h=>?_
  cases r with
  |error e=>exact(hCX H e s' h).elim
  |ok fl =>
   cases fl with
   |next=>exact False.elim h
   |brk=>exact False.elim h
   |cont=>exact False.elim h
   |ret u =>
    obtain⟨v,H',os,bare,un,hok',r',q⟩:=h
    have q':v = .bl true:=q
    subst q'
    obtain rfl:u=Value.bool true:=r'
    refine⟨rfl,OldK.of_keep fun b o e=>?_,os,bare⟩
    cases q:H b with
    |none=>exact un.keep b o e q (by intro z;exact absurd (show b∈([]:List Addr)from z) (by simp)) (by simp)
    |some u =>
     rcases hO b with z |⟨ob,xs,z⟩
     ·rw[q]at z;cases z
     ·have z2:=un.frzs b ob _ z
      obtain⟨e1,_⟩:=hok b _ z
      obtain⟨e2,_⟩:=hok' b _ z2
      rw[e]at e1;cases e1
      exact e2
 cases hk:K.lookup a with
 |some o =>
  -- the script is one of the module's own objects
  have e:=KX a o hk
  rw[ha]at e
  cases e
  refine core (fun _=>none) (fun _=>.inl rfl) (.inr ⟨_,vs.toArray,_,hk,rfl,rfl,rfl,by rw[List.size_toArray,lenV];exact hl,by simpa using rv⟩) (fun b u z=>by have z':(none:Option HO)=some u:=z;cases z') (fun b z=>absurd rfl z) fun z=>absurd rfl z
 |none =>
  refine core (fun b=>if b=a then some (.frz { cls:=.type "list",data:=.seq vs.toArray } (.lst (ns.map V.int)))else none) (fun b=>?_) (.inl (.inr ⟨{ cls:=.type "list",data:=.seq vs.toArray },if_pos rfl⟩)) (fun b u z=>?_) (fun b z=>?_) fun _=>hk
  ·by_cases hb:b=a
   ·exact .inr ⟨_,_,if_pos hb⟩
   ·exact .inl (if_neg hb)
  ·by_cases hb:b=a
   ·have z':=(if_pos hb).symm.trans z
    cases z'
    subst hb
    exact⟨ha,by rw[List.length_map];exact hl,vs,_,rv,ha⟩
   ·have z':=(if_neg hb).symm.trans z
    cases z'
  ·by_cases hb:b=a
   ·exact hb
   ·exact absurd (if_neg hb) z
open PySem PySem.Spec PyProof.Rows
theorem walk_of{l:PySem.W.OpenLaw}{n k:Nat}{q:Program}{loose:List Str}{XP:(Str->Option Value)->Heap->Prop}{YP:World->Heap->Prop}{d:DefRec}{K:Params->PySem.W.Frag}{CX:World->CXT}{sp:World->Sp}{x:Str}
  (hn:l.most=some n) (hn2:n<=sizeLine) (hdf:d.params.defaults=[]) (hr:Room k callerA)
  (hY:∀ (w:World) (h:Heap),YP w h->(K w.params).In h)
  (F:∀ (w:World) (mg:Str->Option Value) (fa:Addr) (h:Heap),(K w.params).In h->h.Ns mainGlobals mg->mg d.name=some (.ref fa) ->
   ∃ fd:FuncData,(∀ (s:Shared) (u:Value),BindsTo s fd ⟨[u],[]⟩ [(x,u)]) /\
    ∀ base:Heap,(K w.params).In base->base.Ns mainGlobals mg->FnOk l.prog w (K w.params) mg base (CX w) k fa fd [x] (sp w))
  (hsp:∀ (w:World) (H:Hp) (a:Addr) (ns:List Int),ns.length<=n->Only H->SqL (K w.params) H a (ns.map V.int)->sp w [.ref a] H (fun v _=>v = .bl true) fun _ _ _=>False)
  (hCX:∀ (w:World) (H:Hp) (s:Shared) (e:Value) (s':Shared),CX w [] H s (fun _ _ _=>False) e s'->False) :
  PySem.W.WalkO q loose XP YP l.row.toRowW d [] (fun f vs=>PySem.call f vs):=by
 refine Att.attach_call hn hdf fun w s₀ s₁ mg mb fa o pm cd doc a vs ns G Y ho hd hcd hmg hobj hints hlen hg=>?_
 have KX:=hY w _ Y
 obtain⟨fd,hb,hF⟩:=F w mg fa _ KX G.T.g hmg
 exact law_call KX G.T.g G.T.b G.T.builtins G.T.nolimit hg hobj hints (Nat.le_trans hlen hn2) hr hF hb (fun H hO hS=>hsp w H a ns hlen hO hS) fun H e s'=>hCX w H s₁ e s'
open PySem PySem.Spec PyProof.Rows
noncomputable def defArgs(s:Stmt):Arguments:=match s with
 | .FunctionDef _ a _ _ _ _ _ _ _ _=>a
 | _=>{ posonlyargs:=[],args:=[],vararg:=none,kwonlyargs:=[],kw_defaults:=[],kwarg:=none,defaults:=[] }
noncomputable def defBody(s:Stmt):List Stmt:=match s with
 | .FunctionDef _ _ b _ _ _ _ _ _ _=>b
 | _=>[]
noncomputable def defScope(s:Stmt):Scope:=match s with
 | .FunctionDef _ _ _ _ _ _ sc _ _ _=>sc
 | _=>{ kind:=.function,names:=[],isGenerator:=false,isCoroutine:=false }
noncomputable abbrev CX0:CXT:=fun _ _ _ _ _ _=>False
noncomputable abbrev E0:XK:=fun _ _ _=>False
theorem pass0{X:Cx}:Passes CX0 X E0:=fun _ _ _ _ _ _ _ h=>h.elim
structure Fun(K:PySem.W.Frag)(x qual:Str)(st:Stmt)(f:Addr)(fd:FuncData):Prop where
 ex:∃ (oc:Value) (od:Option Addr) (kV doc pm:Value) (an:Option Addr) (cdv ct:Value) (osl:Array (Option Value)),
  fd=PySem.W.fnOf x qual (defArgs st) (defBody st) (defScope st) .none kV doc pm an cdv ct/\K.lookup f=some ⟨oc,od,.func fd,osl⟩/\PySem.W.codeIn K cdv qual=true
 kp:PySem.W.keepIn K (.ref f)=true
section
variable{P:Program}{w:World}{K:PySem.W.Frag}{mg:Str->Option Value}{base:Heap}
theorem Fun.ok{x qual:Str}{st:Stmt}{f:Addr}{fd:FuncData}{N ps:List Str}{k:Nat}{sp:Sp}(F:Fun K x qual st f fd)(S:FnScope N ps (defScope st))(len:∀ vs H Q E,sp vs H Q E->vs.length=ps.length)
  (hbody:∀ (cdv:Value) (A:Around) (outer:List Env) (s:Shared) (H:Hp) (vs:List V) (Q:VK) (E:XK),Room k (A.deeper (envOfC qual (defScope st) s.heap.objs.size f cdv))->sp vs H Q E ->
   ∃ t,PSs (cxOf CX0 P w K mg base N qual (defScope st) f cdv A outer s H E).nox (defBody st) t/\t { nx:=fun _ H'=>Q .non H',rt:=Q } (start N vs) H):FnOk P w K mg base CX0 (k+1) f fd ps sp:=by
 obtain⟨oc,od,kV,doc,pm,an,cdv,ct,osl,rfl,lk,hcd⟩:=F.ex
 refine fn_of lk hcd S len fun A outer s H vs Q E hr hsp=>?_
 obtain⟨t,h,q⟩:=hbody cdv A outer s H vs Q E hr hsp
 exact⟨t,h.nox,q⟩
theorem Fun.binds{x qual:Str}{st:Stmt}{f:Addr}{fd:FuncData}{ps:List Str}(F:Fun K x qual st f fd)
  (h:∀ (kV doc pm:Value) (an:Option Addr) (cdv ct:Value) (us:List Value),us.length=ps.length->bindArgs (PySem.W.fnOf x qual (defArgs st) (defBody st) (defScope st) .none kV doc pm an cdv ct) ⟨us,[]⟩=pure (ps.zip us)):Binds K fd ps []:=by
 obtain⟨oc,od,kV,doc,pm,an,cdv,ct,osl,rfl,lk,hcd⟩:=F.ex
 exact .all (h kV doc pm an cdv ct)
theorem fun_mk{x qual:Str}{st:Stmt}{f:Addr}{oc:Value}{od an:Option Addr}{osl:Array (Option Value)}{kV doc pm cdv ct:Value}(l:K.lookup f=some ⟨oc,od,.func (PySem.W.fnOf x qual (defArgs st) (defBody st) (defScope st) .none kV doc pm an cdv ct),osl⟩)
  (c:PySem.W.codeIn K cdv qual=true) (k:PySem.W.keepIn K (.ref f)=true):Fun K x qual st f (PySem.W.fnOf x qual (defArgs st) (defBody st) (defScope st) .none kV doc pm an cdv ct):=⟨⟨oc,od,kV,doc,pm,an,cdv,ct,osl,rfl,l,c⟩,k⟩
end
section
variable{X:Cx}
theorem pv(i:Nat){x:Str}{pos:Pos}(hN:X.N[i]?=some x:=by rfl)(hv:Vis X.env.scope x:=by first | exact Or.inl rfl | exact Or.inr (Or.inl rfl) | exact Or.inr (Or.inr rfl))(hd:(x ==("__debug__":Str))=false:=by decide)
  (hcd:(x ==("__classdict__":Str))=false:=by decide):PE X (.Name x pos) (tVar i):=pe_var hN hv hd hcd
end
theorem iteF{A B:Prop}(h:B):if false=true then A else B:=by
 rw[if_neg Bool.false_ne_true]
 exact h
theorem iteT{A B:Prop}(h:A):if true=true then A else B:=by
 rw[if_pos rfl]
 exact h
theorem ite2{c A B:Prop}[Decidable c](h1:c->A)(h2:¬ c->B):if c then A else B:=by
 by_cases h:c
 ·rw[if_pos h]
  exact h1 h
 ·rw[if_neg h]
  exact h2 h
theorem iteNS{c A B:Prop}[Decidable c](hc:c)(h:B):if(!decide c)=true then A else B:=by
 rw[decide_eq_true hc]
 exact iteF h
noncomputable def Same(H H':Hp):Prop:=∀ b o,H b=some o->H' b=some o
theorem Same.refl(H:Hp):Same H H:=fun _ _ h=>h
theorem Same.trans{H H1 H2:Hp}(a:Same H H1)(b:Same H1 H2):Same H H2:=fun c o h=>b c o (a c o h)
theorem Same.free{H H':Hp}(e:Same H H'){l:Addr}(h:H' l=Option.none):H l=Option.none:=by
 cases q:H l with
 |none=>rfl
 |some o =>
  rw[e l o q]at h
  cases h
theorem Same.seq{K:PySem.W.Frag}{H H':Hp}{a:Addr}{xs:List V}(e:Same H H')(h:SqL K H a xs):SqL K H' a xs:=by
 rcases h with(h |⟨o,h⟩) | h
 ·exact .inl (.inl (e _ _ h))
 ·exact .inl (.inr ⟨o,e _ _ h⟩)
 ·exact .inr h
open PySem PySem.Spec PyProof.Rows
end L2
set_option maxHeartbeats 4000000
namespace L2
open PySem PySem.Spec PyProof.Rows
noncomputable def closCl(cells:List (Str×Addr)):List (Str×NameKind)->List (Str×Addr)->List (Str×Addr)
 |[],acc=>acc
 |(n,k) :: r,acc=>closCl cells r (if k == .free then(n,(cells.lookup n).getD 0) :: acc else acc)
theorem closureFor_cells{scope:Scope}{env:Env}(h:∀ x∈scope.names,x.2 = .free->∃ c,env.cells.lookup x.1=some c) :
  closureFor scope env=pure (closCl env.cells scope.names []):=by
 have gen:∀ (l:List (Str×NameKind)) (acc:List (Str×Addr)),(∀ x∈l,x.2 = .free->∃ c,env.cells.lookup x.1=some c) ->
   (forIn l acc fun(x:Str×NameKind) (cs:List (Str×Addr))=>(do
    if x.2 == .free then
     let c <- cellOf env x.1
     pure (ForInStep.yield ((x.1,c) :: cs))
    else pure (ForInStep.yield cs):Sem (ForInStep (List (Str×Addr)))))=pure (closCl env.cells l acc):=by
  intro l
  induction l with
  |nil=>intro acc _;rfl
  |cons x r ih =>
   intro acc hx
   obtain⟨n,k⟩:=x
   rw[List.forIn_cons]
   have hr:=fun y hy=>hx y (List.mem_cons_of_mem _ hy)
   by_cases hk:k = .free
   ·subst hk
    obtain⟨c,hc⟩:=hx (n,.free) List.mem_cons_self rfl
    have e1:cellOf env n=pure c:=by unfold cellOf;rw[hc]
    simp only[e1,beq_self_eq_true,if_true,pure_bind]
    rw[ih _ hr]
    have hc':env.cells.lookup n=some c:=hc
    simp[closCl,hc']
   ·have hb:(k == NameKind.free)=false:=by simpa using hk
    simp only[hb,Bool.false_eq_true,if_false,pure_bind]
    rw[ih _ hr]
    simp[closCl,hb]
 have g:=gen scope.names [] h
 unfold closureFor
 simp only[bind_pure]
 exact g
theorem closCl_sound{cells:List (Str×Addr)}:∀ (l:List (Str×NameKind)) (acc:List (Str×Addr)),(∀ x∈l,x.2 = .free->∃ c,cells.lookup x.1=some c) ->
  (∀ y c,acc.lookup y=some c->cells.lookup y=some c)->∀ y c,(closCl cells l acc).lookup y=some c->cells.lookup y=some c
 |[],_,_,ha,y,c,e=>ha y c e
 |(n,k) :: r,acc,h,ha,y,c,e=>by
  refine closCl_sound r _ (fun x hx=>h x (List.mem_cons_of_mem _ hx)) ?_ y c e
  intro y c e
  by_cases hk:k = .free
  ·subst hk
   obtain⟨c',hc⟩:=h (n,.free) List.mem_cons_self rfl
   have hc:cells.lookup n=some c':=hc
   simp only[beq_self_eq_true,if_true,List.lookup_cons]at e
   by_cases hy:y == n
   ·have:y=n:=by simpa using hy
    subst this
    simp[hc]at e
    rw[hc,e]
   ·simp only[hy]at e
    exact ha y c e
  ·have hb:(k == NameKind.free)=false:=by simpa using hk
   rw[hb,if_neg (by simp)]at e
   exact ha y c e
theorem closCl_acc{cells:List (Str×Addr)}:∀ (l:List (Str×NameKind)) (acc:List (Str×Addr)) (y:Str),(∃ c,acc.lookup y=some c)->∃ c,(closCl cells l acc).lookup y=some c
 |[],_,_,h=>h
 |(n,k) :: r,acc,y,h=>by
  refine closCl_acc r _ y ?_
  by_cases hk:(k == NameKind.free)=true
  ·rw[if_pos hk,List.lookup_cons]
   by_cases hy:(y == n)=true
   ·rw[hy];exact⟨_,rfl⟩
   ·rw[Bool.eq_false_iff.mpr hy];exact h
  ·rw[if_neg hk];exact h
theorem closCl_has{cells:List (Str×Addr)}:∀ (l:List (Str×NameKind)) (acc:List (Str×Addr)) (y:Str),(y,NameKind.free)∈l->∃ c,(closCl cells l acc).lookup y=some c
 |[],_,_,h=>nomatch h
 |(n,k) :: r,acc,y,h=>by
  rcases List.mem_cons.mp h with e | h
  ·have e1:n=y:=(congrArg Prod.fst e).symm
   have e2:k=NameKind.free:=(congrArg Prod.snd e).symm
   subst e1 e2
   refine closCl_acc r _ n ?_
   rw[if_pos (by rfl),List.lookup_cons,beq_self_eq_true]
   exact⟨_,rfl⟩
  ·exact closCl_has r _ y h
theorem relabel_mem{scope:Scope}{env:Env}:∀ {l:List (Str×NameKind)}{x:Str}{k':NameKind},
  (l.map fun(n,k)=>if(k == NameKind.free && env.scope.kind == .function && env.kindOf n == some .cell)then(n,NameKind.cell)else(n,k)).lookup x=some k' ->
  ∃ k,(x,k)∈l/\(k=k'\/(k = .free/\k' = .cell))
 |[],_,_,h=>by simp at h
 |(n,k) :: r,x,k',h=>by
  rw[List.map_cons]at h
  dsimp only at h
  by_cases hc:(k == NameKind.free && env.scope.kind == .function && env.kindOf n == some .cell)=true
  ·simp only[hc,if_true,List.lookup_cons]at h
   by_cases hx:(x == n)=true
   ·rw[hx]at h
    have:x=n:=by simpa using hx
    subst this
    have hk:k = .free:=by
     rw[Bool.and_eq_true,Bool.and_eq_true]at hc
     simpa using hc.1.1
    exact⟨k,List.mem_cons_self,.inr ⟨hk,by cases h;rfl⟩⟩
   ·rw[Bool.eq_false_iff.mpr hx]at h
    obtain⟨k1,h1,h2⟩:=relabel_mem (scope:=scope) h
    exact⟨k1,List.mem_cons_of_mem _ h1,h2⟩
  ·rw[if_neg hc,List.lookup_cons]at h
   by_cases hx:(x == n)=true
   ·rw[hx]at h
    have:x=n:=by simpa using hx
    subst this
    exact⟨k,List.mem_cons_self,.inl (by cases h;rfl)⟩
   ·rw[Bool.eq_false_iff.mpr hx]at h
    obtain⟨k1,h1,h2⟩:=relabel_mem (scope:=scope) h
    exact⟨k1,List.mem_cons_of_mem _ h1,h2⟩
theorem relabel_free{env:Env}:∀ {l:List (Str×NameKind)}{x:Str},l.lookup x=some .free ->
  (l.map fun(n,k)=>if(k == NameKind.free && env.scope.kind == .function && env.kindOf n == some .cell)then(n,NameKind.cell)else(n,k)).lookup x=some .cell \/
  (l.map fun(n,k)=>if(k == NameKind.free && env.scope.kind == .function && env.kindOf n == some .cell)then(n,NameKind.cell)else(n,k)).lookup x=some .free
 |[],_,h=>by simp at h
 |(n,k) :: r,x,h=>by
  rw[List.map_cons]
  dsimp only
  rw[List.lookup_cons]at h
  by_cases hx:(x == n)=true
  ·rw[hx]at h
   have hk:k = .free:=by cases h;rfl
   by_cases hc:(k == NameKind.free && env.scope.kind == .function && env.kindOf n == some .cell)=true
   ·left;rw[if_pos hc,List.lookup_cons,hx]
   ·right;rw[if_neg hc,List.lookup_cons,hx,hk]
  ·rw[Bool.eq_false_iff.mpr hx]at h
   have ih:=relabel_free (env:=env) h
   by_cases hc:(k == NameKind.free && env.scope.kind == .function && env.kindOf n == some .cell)=true
   ·rw[if_pos hc,List.lookup_cons,Bool.eq_false_iff.mpr hx];exact ih
   ·rw[if_neg hc,List.lookup_cons,Bool.eq_false_iff.mpr hx];exact ih
theorem lookup_mem{α:Type}[BEq α][LawfulBEq α]{β:Type}:∀ {l:List (α×β)}{x:α}{k:β},l.lookup x=some k->(x,k)∈l
 |[],_,_,h=>by simp at h
 |(n,k') :: r,x,k,h=>by
  rw[List.lookup_cons]at h
  by_cases hx:(x == n)=true
  ·rw[hx]at h
   have:x=n:=by simpa using hx
   subst this
   cases h
   exact List.mem_cons_self
  ·rw[Bool.eq_false_iff.mpr hx]at h
   exact List.mem_cons_of_mem _ (lookup_mem h)
noncomputable def cxIn(X:Cx)(N':List Str)(scope:Scope)(C:Addr)(s2:Shared)(H2:Hp)(fp:List Addr):Cx :=
 { X with N:=N',s₀:=s2,H₀:=H2,env:=compEnvC scope (closCl X.env.cells scope.names []) C X.env,outer:=X.stack,ex:=fp,fn:=fun _=>false,xe:=fun _ _=>False }
noncomputable def capt(cap:List (Option Nat))(σ:St):St:=cap.map fun o=>o.bind fun j=>(σ[j]?).join
structure CompScope(N':List Str)(cap:List (Option Nat))(N:List Str)(sc0 scope:Scope):Prop where
 kind:scope.kind = .function
 nocell:∀ x∈scope.names,x.2≠.cell
 loc:∀ x∈scope.names,x.2 = .local->scope.names.lookup x.1=some .local
 fre:∀ x∈scope.names,x.2 = .free->sc0.names.lookup x.1=some .cell\/sc0.names.lookup x.1=some .free
 len:cap.length=N'.length
 cap:∀ j∈List.range cap.length,match cap[j]? with
  |some (some i)=>match N'[j]? with
   |some x=>N[i]?=some x/\scope.names.lookup x=some .free
   |none=>False
  | _=>True
section
variable{X:Cx}{N':List Str}{cap:List (Option Nat)}{scope:Scope}{C:Addr}{s2 s4:Shared}{H2:Hp}{fp:List Addr}{pins:List (Addr×Obj)}{σ:St}
theorem CompScope.clos(S:CompScope N' cap X.N X.env.scope scope)(I:Inv X pins σ H2 s2):∀ x∈scope.names,x.2 = .free->∃ c,X.env.cells.lookup x.1=some c :=
 fun x hx hf=>I.ok.has x.1 (S.fre x hx hf)
theorem cxIn_ok(S:CompScope N' cap X.N X.env.scope scope)(I:Inv X pins σ H2 s2)(hC:s2.heap.objs.size<=C)(hfp:∀ b∈fp,FpOk X pins H2 b)(hfo:∀ b∈fp,∃ o,s2.heap.get? b=some o):(cxIn X N' scope C s2 H2 fp).Ok where
 mod:=I.ok.mod
 kind:=S.kind
 glob:=I.ok.glob
 blt:=I.ok.blt
 above:=hC
 inj:=fun x y c e1 e2=>I.ok.inj x y c (closCl_sound _ _ (S.clos I) (fun y c e=>by simp at e) x c e1) (closCl_sound _ _ (S.clos I) (fun y c e=>by simp at e) y c e2)
 has:=fun x h=>by
  have hm:(x,NameKind.free)∈scope.names:=by
   rcases h with h | h
   ·obtain⟨k,hk,e |⟨e,_⟩⟩:=relabel_mem (scope:=scope) (l:=scope.names) h
    ·subst e;exact absurd rfl (S.nocell _ hk)
    ·subst e;exact hk
   ·obtain⟨k,hk,e |⟨_,e⟩⟩:=relabel_mem (scope:=scope) (l:=scope.names) h
    ·subst e;exact hk
    ·cases e
  exact closCl_has _ _ x hm
 cab:=fun _ _ h _=>nomatch h
 hd:=I.ok.hd
 frames:=I.ok.frames
 stk:=.inl rfl
 exf:=fun b hb=>⟨fun z=>by
   obtain⟨o,ho⟩:=hfo b hb
   have h1:=Nat.lt_of_lt_of_le (Heap.lt_size ho) hC
   have z:b=C:=z
   rw[z]at h1
   exact Nat.lt_irrefl _ h1,fun x c e=>(hfp b hb).2.2.2.2.1 x c (closCl_sound _ _ (S.clos I) (fun y c e=>by simp at e) x c e)⟩
 bs:=I.bs
 bsz:=Nat.le_trans I.ok.bsz I.sz
 noex:=fun b o e hb=>by
  rcases(hfp b hb).2.2.2.1 with z | z
  ·exact I.ok.noex b o e z
  ·exact absurd (Nat.lt_of_lt_of_le (Heap.lt_size e) (Nat.le_trans I.ok.bsz z)) (Nat.lt_irrefl _)
 exfs:=fun b hb z=>by
  rcases List.mem_cons.mp (I.stkSub b z)with e | e
  ·exact(hfp b hb).2.1 e
  ·exact(hfp b hb).2.2.1 e
 funs:=I.stack
 frf:=I.stkFree
theorem cxIn_inv(S:CompScope N' cap X.N X.env.scope scope)(I:Inv X pins σ H2 s2)(hC:s2.heap.objs.size<=C)(hfp:∀ b∈fp,FpOk X pins H2 b)(hfo:∀ b∈fp,∃ o,s2.heap.get? b=some o)
  (ho:s4.os=s2.os) (hg:s4.gens=s2.gens) (k:∀ b o,s2.heap.get? b=some o->s4.heap.get? b=some o) {m:Str->Option Value} (hn:s4.heap.Ns C m) {D:Addr}{oD:Obj}
  (hD:s4.heap.get? D=some oD) (hDs:s2.heap.objs.size<=D) (hDC:D≠C) (hDc:∀ v,oD.data≠.cell v) :
  Inv (cxIn X N' scope C s2 H2 fp) (pins++[(D,oD)]) (capt cap σ) H2 s4 where
 ok:=cxIn_ok S I hC hfp hfo
 os:=ho
 bare:=by rw[hg];exact I.bare
 base:=Un.kept k
 loc:=by
  refine⟨m,hn,fun j x v e1 e2 _=>?_⟩
  have hj:j<cap.length:=by rw[S.len];exact(List.getElem?_eq_some_iff.mp e1).1
  have e1:N'[j]?=some x:=e1
  have hc:=S.cap j (List.mem_range.mpr hj)
  unfold capt at e2
  rw[List.getElem?_map]at e2
  cases hq:cap[j]? with
  |none=>rw[hq]at e2;cases e2
  |some o =>
   rw[hq]at e2 hc
   cases o with
   |none=>cases e2
   |some i =>
    simp only[e1]at hc
    obtain⟨hN,hfr⟩:=hc
    have e3:σ[i]?=some (some v):=by
     have e2:(σ[i]?).join=some v:=Option.some.inj e2
     cases hs:σ[i]? with
     |none=>rw[hs]at e2;cases e2
     |some w=>rw[hs]at e2;have e2:w=some v:=e2;rw[e2]
    have hm:=lookup_mem hfr
    have hk:=S.fre _ hm rfl
    obtain⟨m0,hn0,hl0⟩:=I.loc
    obtain⟨u,r,l⟩:=hl0 i x v hN e3 (.inr hk)
    refine⟨u,r,?_⟩
    rcases l with⟨l,_⟩ |⟨_,c,e,z⟩
    ·rcases hk with hk | hk
     ·rw[show X.env.kindOf x=some .cell from hk]at l;cases l
     ·rw[show X.env.kindOf x=some .free from hk]at l;cases l
    ·obtain⟨c',hc'⟩:=closCl_has (cells:=X.env.cells) scope.names [] x hm
     have hs:=closCl_sound scope.names [] (S.clos I) (fun y c e=>by simp at e) x c' hc'
     rw[e]at hs
     cases hs
     refine .inr ⟨relabel_free hfr,c,hc',?_⟩
     obtain⟨oc,ho',hd'⟩:=z
     exact⟨oc,k _ _ ho',hd'⟩
 cell:=fun x c e=>by
  obtain⟨v,oc,ho',hd'⟩:=I.cell x c (closCl_sound scope.names [] (S.clos I) (fun y c e=>by simp at e) x c e)
  exact⟨v,oc,k _ _ ho',hd'⟩
 free:=I.hok.fresh hC
 freeC:=fun x c e=>I.freeC x c (closCl_sound scope.names [] (S.clos I) (fun y c e=>by simp at e) x c e)
 pin:=fun p hp=>by
  have hp:p∈X.pn++(pins++[(D,oD)]):=hp
  have cne:∀ b o,s2.heap.get? b=some o->b≠C:=fun b o e z=>by
   have h1:=Nat.lt_of_lt_of_le (Heap.lt_size e) hC
   rw[z]at h1
   exact Nat.lt_irrefl _ h1
  rw[<- List.append_assoc]at hp
  rcases List.mem_append.mp hp with hp | hp
  ·obtain⟨e,n,ne,nf,d⟩:=I.pin p hp
   exact⟨k _ _ e,n,cne _ _ e,fun z=>by
    rcases List.mem_cons.mp (I.stkSub p.1 z)with e | e
    ·exact ne e
    ·exact nf e,d⟩
  ·have e:p=(D,oD):=by simpa using hp
   subst e
   refine⟨hD,I.hok.fresh hDs,hDC,fun z=>?_,hDc⟩
   rcases List.mem_cons.mp (I.stkSub D z)with e | e
   ·have h1:=Nat.lt_of_lt_of_le I.lt hDs
    rw[e]at h1
    exact Nat.lt_irrefl _ h1
   ·exact I.nofs hDs e
 hok:=I.hok.kept k
 len:=by unfold capt;rw[List.length_map];exact S.len
end
noncomputable def PF(X:Cx)(ifs:List Expr)(t:TT):Prop :=
 ∀ (pins:List (Addr×Obj)) (s:Shared) (σ:St) (H:Hp) (Q:Bool->Hp->Prop),Inv X pins σ H s->t σ H Q ->
  wpAny (model X.prog X.w) X.A (forIn ifs true fun c r=>if r=true then do let ok <- isTrue c X.env (eval c X.env);pure (ForInStep.yield ok)else pure (ForInStep.yield r)) (TP X pins σ Q) X.xe s
noncomputable def tTru:TT:=fun _ H Q=>Q true H
theorem pf_nil{X:Cx}:PF X [] tTru:=fun _ _ _ H _ I h=>wpAny_tests_nil ⟨H,I,h⟩
theorem pf_one{X:Cx}{c:Expr}{t:TT}(h:PT X c t):PF X [c] t:=fun pins s σ H Q I q=>wpAny_tests_one (h pins s σ H Q I q)
section
variable{prog:Program}{w:World}{A:Around}{E:Value->Shared->Prop}{R:Result->Shared->Prop}{s:Shared}
theorem codeAny_compLoop_any{elt target iter:Expr}{ifs:List Expr}{scope:Scope}{pos:Pos}{it acc:Value}{env:Env}(I:Nat->Shared->Prop)
  (turn:∀ n s,I n s->wpAny (model prog w) A (pyNext it) (fun r s₁=>match r with
   |none=>R (.ok .next) s₁
   |some v=>wpAny (model prog w) A (letOwnedTupleGo target it v) (fun _ s₁'=>wpAny (model prog w) A (assign target env v) (fun _ s₂ =>
     wpAny (model prog w) A (forIn ifs true fun c r=>if r=true then do let ok <- isTrue c env (eval c env);pure (ForInStep.yield ok)else pure (ForInStep.yield r)) (fun ok s₃ =>
      if ok=true then wpAny (model prog w) A (eval elt env) (fun x s₄ =>
       wpAny (model prog w) A (call (.builtin "list.append") [acc,x]) (fun _ s₅=>∃ m,m<n/\I m s₅) (fun _ _=>False) s₄) (fun _ _=>False) s₃
      else ∃ m,m<n/\I m s₃) (fun _ _=>False) s₂) (fun _ _=>False) s₁') (fun _ _=>False) s₁) (fun _ _=>False) s)
  (n:Nat) (h:I n s) :
  codeAny (model prog w) A (.compLoop (.ListComp elt [⟨target,iter,ifs,0⟩] scope pos) 0 it acc env) R s:=by
 refine codeAny_loop rfl I (fun n s hI=>?_) n h
 show wpAny _ A ((compTurn (.ListComp elt [⟨target,iter,ifs,0⟩] scope pos) 0 it acc env).onRaise (fun x=>do noteFrame x env;theTreesLotGoes x)) _ _ s
 refine wpAny_noted ?_
 rw[compTurn_list]
 refine wpAny_bind (wpAny_standAt (wpAny_bind (wpAny_mono (turn n s hI) (fun r s₁ h₁=>?_) fun _ _ h'=>h'.elim)))
 cases r with
 |none=>exact wpAny_pure h₁
 |some v =>
  refine wpAny_bind (wpAny_mono h₁ (fun _ s₁' h₁'=>?_) fun _ _ h'=>h'.elim)
  refine wpAny_bind (wpAny_mono h₁' (fun _ s₂ h₂=>wpAny_bind (wpAny_mono h₂ (fun ok s₃ h₃=>?_) fun _ _ h'=>h'.elim)) fun _ _ h'=>h'.elim)
  cases ok with
  |false=>exact wpAny_pure ⟨rfl,h₃⟩
  |true =>
   exact wpAny_bind (wpAny_bind (wpAny_mono h₃ (fun x s₄ h₄=>wpAny_bind (wpAny_mono h₄ (fun _ s₅ h₅=>wpAny_pure (wpAny_pure ⟨rfl,h₅⟩)) fun _ _ h'=>h'.elim)) fun _ _ h'=>h'.elim))
end
noncomputable def Kp:St->St->Prop
 |[],[]=>True
 |none :: r,_ :: r'=>Kp r r'
 |some v :: r,o :: r'=>o=some v/\Kp r r'
 | _,_=>False
theorem Kp.length:∀ {a b:St},Kp a b->a.length=b.length
 |[],[],_=>rfl
 |none :: r,_ :: r',h=>congrArg (· + 1) (Kp.length (a:=r) (b:=r') h)
 |some v :: r,o :: r',h=>congrArg (· + 1) (Kp.length (a:=r) (b:=r') h.2)
 |[],_ :: _,h=>h.elim
 |none :: _,[],h=>h.elim
 |some _ :: _,[],h=>h.elim
theorem Kp.get:∀ {a b:St},Kp a b->∀ (i:Nat) (v:V),a[i]?=some (some v)->b[i]?=some (some v)
 |[],[],_,i,v,e=>e
 |none :: r,_ :: r',h,0,v,e=>by simp at e
 |none :: r,_ :: r',h,i+1,v,e=>by simpa using Kp.get (a:=r) (b:=r') h i v (by simpa using e)
 |some w :: r,o :: r',h,0,v,e=>by rw[h.1];simpa using e
 |some w :: r,o :: r',h,i+1,v,e=>by simpa using Kp.get (a:=r) (b:=r') h.2 i v (by simpa using e)
 |[],_ :: _,h,_,_,_=>h.elim
 |none :: _,[],h,_,_,_=>h.elim
 |some _ :: _,[],h,_,_,_=>h.elim
noncomputable def compTurns(J:It)(cap:List (Option Nat))(σ:St)(H1:Hp)(Q:VK)(g:TG)(tc:TT)(te:TE):Prop:=∃ (n:Nat) (P:Nat->List V->Hp->Prop),n<=sizeLine/\P 0 [] H1 /\
 ∀ i ys H,ys.length<=i->i<=n->P i ys H->(J.stop i H/\∀ D,H D=none->Q (.ref D) (upd H D (.lst ys))) \/
  (i<n/\J.go i H/\∀ x H',J.yld i H x H'->g x (capt cap σ) H' fun σ2 H2=>Kp (capt cap σ) σ2/\tc σ2 H2 fun b H3=>if b=true then te σ2 H3 fun y H4=>P (i+1) (ys++[y]) H4 else P (i+1) ys H3)
noncomputable def tComp(cap:List (Option Nat))(wi:TI)(g:TG)(tc:TT)(te:TE):TE:=fun σ H Q=>wi σ H fun J H1=>compTurns J cap σ H1 Q g tc te
noncomputable def CompEnd(X:Cx)(pins:List (Addr×Obj))(σ:St)(Q:VK)(acc:Value)(C:Addr)(r:Result)(s':Shared):Prop :=
 match r with
 | .ok _=>∃ v H',Inv X pins σ H' s'/\RelV v acc/\Q v H'/\(∃ m,s'.heap.Ns C m)/\FpOk X pins H' C
 | .error _=>False
section
variable{X:Cx}{elt tg iter:Expr}{ifs:List Expr}{scope:Scope}{pos:Pos}{N':List Str}{cap:List (Option Nat)}{wi:TI}{g:TG}{tc:TT}{te:TE}
theorem comp_run(hc:X.calm=true)(S:CompScope N' cap X.N X.env.scope scope)(hi:PI X tg iter wi)(hg:∀ C s H fp,PG (cxIn X N' scope C s H fp) tg g)
  (ht:∀ C s H fp,PF (cxIn X N' scope C s H fp) ifs tc) (he:∀ C s H fp,PE (cxIn X N' scope C s H fp) elt te)
  {pins:List (Addr×Obj)}{s:Shared}{σ:St}{H:Hp}{Q:VK} (I:Inv X pins σ H s) (h:tComp cap wi g tc te σ H Q) :
  wpAny (model X.prog X.w) X.A (eval iter X.env) (fun x s₁=>wpAny (model X.prog X.w) X.A (pyIter x) (fun it s₂=>wpAny (model X.prog X.w) X.A (newList []) (fun acc s₃ =>
   wpAny (model X.prog X.w) X.A (newFunctionEnv scope X.env.globals (closCl X.env.cells scope.names []) [] X.env.qual none .none (some X.env)) (fun cenv s₄ =>
    codeAny (model X.prog X.w) X.A (.compStart (.ListComp elt [⟨tg,iter,ifs,0⟩] scope pos) 0 it acc { cenv with scope:=relabel scope X.env }) (CompEnd X pins σ Q acc cenv.locals) s₄) X.xe s₃) X.xe s₂) X.xe s₁) X.xe s:=by
 refine thn (hi pins s σ H _ I h) fun v s1 h1=>thn h1 fun itv s2 h2=>?_
 obtain⟨it,fp,tn,J,H2,e,I2,T,st2,f2,n,P,hn,p0,turn⟩:=h2
 subst e
 refine wpAny_newObj_type (wpAny_newFunctionEnv S.nocell (by intro y hy;simp at hy) (fun h₁ hns₁ hsb₁=>?_) S.kind)
 dsimp only at hns₁ hsb₁ ⊢
 generalize hHp:s2.heap.push { cls:=.type "list",dict:=none,data:=.seq ([]:List Value).toArray } = Hq at hns₁ hsb₁ ⊢
 have hC:Hq.objs.size=s2.heap.objs.size+1:=by rw[<- hHp,Heap.size_push]
 have hDC:s2.heap.objs.size≠Hq.objs.size:=by rw[hC];exact Nat.ne_of_lt (Nat.lt_succ_self _)
 have hCle:s2.heap.objs.size<=Hq.objs.size:=by rw[hC];exact Nat.le_succ _
 have old:∀ b o,s2.heap.get? b=some o->h₁.get? b=some o:=fun b o e =>
  hsb₁.extBut b o (by rw[hC];exact Nat.ne_of_lt (Nat.lt_succ_of_lt (Heap.lt_size e))) (Heap.get?_push_of_some _ (hHp▸Heap.get?_push_of_some _ e))
 have hacc:h₁.PlainList s2.heap.objs.size #[]:=⟨_,hsb₁.extBut _ _ hDC (Heap.get?_push_of_some _ (hHp▸Heap.get?_push_size _ rfl))⟩
 have hfo:∀ b∈fp,∃ o,s2.heap.get? b=some o:=fun b hb=>let ⟨o,e,_⟩:=T.obj _ _ st2 b hb;⟨o,e⟩
 have st4:tn 0 h₁:=T.keep _ _ _ st2 fun b _ o e=>old b o e
 let D:Addr:=s2.heap.objs.size
 let C:Addr:=Hq.objs.size
 let Y:Cx:=cxIn X N' scope C s2 H2 fp
 have hDfp:D∉fp:=fun hb=>by
  obtain⟨o,e⟩:=hfo D hb
  exact Nat.lt_irrefl _ (Heap.lt_size e)
 -- the iterator's objects,seen from within
 have stat:∀ {H':Hp}{oD:Obj},(∀ b∈fp,H' b=none)->∀ b∈fp,FpOk Y (pins++[(D,oD)]) H' b:=fun {H' oD} hn b hb=>by
  obtain⟨f0,f1,fx,f3,f4,f5⟩:=f2 b hb
  obtain⟨o,e⟩:=hfo b hb
  refine⟨hn b hb,fun z=>?_,fun z=>?_,.inl hb,fun x c e=>f4 x c (closCl_sound _ _ (S.clos I2) (fun y c e=>by simp at e) x c e),fun p hp=>?_⟩
  ·have h1:=Nat.lt_of_lt_of_le (Heap.lt_size e) hCle
   have z:b=Hq.objs.size:=z
   rw[z]at h1
   exact Nat.lt_irrefl _ h1
  ·rcases List.mem_cons.mp (I2.stkSub b z)with e | e
   ·exact f1 e
   ·exact fx e
  ·have hp:p∈X.pn++(pins++[(D,oD)]):=hp
   rw[<- List.append_assoc]at hp
   rcases List.mem_append.mp hp with hp | hp
   ·exact f5 p hp
   ·have q:p=(D,oD):=by simpa using hp
    subst q
    exact fun z=>hDfp (by rw[show D=b from z];exact hb)
 have loop:∀ s₃:Shared,s₃ = { s2 with heap:=h₁,toks:=s2.toks+([]:List (Str×Value)).length } ->
   codeAny (model X.prog X.w) X.A (.compLoop (.ListComp elt [⟨tg,iter,ifs,0⟩] scope pos) 0 (.ref it) (.ref s2.heap.objs.size) (compEnvC scope (closCl X.env.cells scope.names []) Hq.objs.size X.env))
    (CompEnd X pins σ Q (.ref s2.heap.objs.size) Hq.objs.size) s₃:=by
  rintro s₃ rfl
  have cellD:∀ x c,Y.env.cells.lookup x=some c->c≠D:=fun x c e z=>by
   obtain⟨v,q⟩:=I2.cell x c (closCl_sound _ _ (S.clos I2) (fun y c e=>by simp at e) x c e)
   have h1:=q.lt
   rw[show c=s2.heap.objs.size from z]at h1
   exact Nat.lt_irrefl _ h1
  have pinD:∀ p∈X.pn++pins,p.1≠D:=fun p hp z=>by
   have h1:=Heap.lt_size (I2.pin p hp).1
   rw[show p.1=s2.heap.objs.size from z]at h1
   exact Nat.lt_irrefl _ h1
  have inD:∀ {pl:List (Addr×Obj)}{oD:Obj},(D,oD)∈Y.pn++((pins++[(D,oD)])++pl):=fun {pl oD}=>List.mem_append_right _ (List.mem_append_left _ (List.mem_append_right _ (by simp)))
  have inF:∀ {pl:List (Addr×Obj)}{oD:Obj}{p:Addr×Obj},p∈pl->p∈Y.pn++((pins++[(D,oD)])++pl):=fun {pl oD p} hp=>List.mem_append_right _ (List.mem_append_right _ hp)
  refine codeAny_compLoop_any (fun m s'=>∃ i ys H' its ep,m=n-i/\i<=n/\ys.length<=i/\Vals ys its/\Inv Y (pins++[(D,{ cls:=.type "list",data:=.seq its.toArray ep })]) (capt cap σ) H' s'/\tn i s'.heap/\(∀ b∈fp,H' b=none)/\P i ys H') ?_ n ?_
  ·rintro m s3 ⟨i,ys,H3,its,ep,rfl,hin,hyl,rv,I3,st3,fr3,p3⟩
   rcases turn i ys H3 hyl hin p3 with⟨stop,q⟩ |⟨hlt,go,step⟩
   ·refine thn (T.done Y rfl rfl rfl hc i _ s3 _ H3 (fun _ _=>False) I3 (stat fr3) st3 stop) fun r s4 ⟨hr,I4⟩=>?_
    subst hr
    obtain⟨eD,nD,_⟩:=I4.pin (D,{ cls:=.type "list",data:=.seq its.toArray ep }) (List.mem_append_right _ (List.mem_append_right _ (by simp)))
    have nD:H3 D=none:=nD
    have okn:ObjOk X.prog X.w (upd H3 D (.lst ys)) s4.heap D (.lst ys):=⟨Nat.le_trans hyl (Nat.le_trans hin hn),its,ep,rv,eD⟩
    have hok:HOk X.prog X.w (upd H3 D (.lst ys)) s4.heap:=fun b u e=>by
     by_cases hb:b=D
     ·subst hb;rw[upd_same]at e;cases e;exact okn
     ·rw[upd_ne hb]at e
      exact(I4.hok b u e).stay (fun c v _ q=>q) (fun c q=>by rw[upd_ne (ne_of_none q nD)];exact q) fun c xs q=>by rw[upd_ne (ne_of_none q nD)];exact q
    have B:=I4.base
    have u:Un (frs X.stack) fp H2 (upd H3 D (.lst ys)) s2.heap s4.heap :=
     ⟨B.keep,B.slot,fun b o e n hx=>by rw[upd_ne (Nat.ne_of_lt (Heap.lt_size e))];exact B.free b o e n hx,B.there,fun b xs e=>by rw[upd_ne (ne_of_none (B.tups b xs e) nD)];exact B.tups b xs e,
      fun b o xs e=>by rw[upd_ne (ne_of_none (B.frzs b o xs e) nD)];exact B.frzs b o xs e,fun b ps e=>by
       obtain⟨more,z⟩:=B.tbls b ps e
       exact⟨more,by rw[upd_ne (ne_of_none z nD)];exact z⟩⟩
    have IX:Inv X pins σ (upd H3 D (.lst ys)) s4:=I2.call' (ch:=fp) I4.os u hok I4.bare fun b hb=>by
     obtain⟨f0,f1,fx,f3,f4,f5⟩:=f2 b hb
     exact⟨f3,f1,f4,f5⟩
    have nC:(upd H3 D (.lst ys)) Hq.objs.size=none:=by rw[upd_ne (Ne.symm hDC)];exact I4.free
    obtain⟨m',hm',_⟩:=I4.loc
    exact⟨.ref D,_,IX,rfl,q D nD,⟨m',hm'⟩,I2.fpOk hCle nC⟩
   ·refine thn (T.item Y rfl rfl rfl hc i _ s3 _ H3 (fun _ _=>False) I3 (stat fr3) st3 go) fun r s4 ⟨u,hr,h4⟩=>?_
    subst hr
    refine thn h4 fun _ s5 ⟨x,H5,I5,r5,y5,st5,fr5⟩=>?_
    have I5':=I5.pinned (stat fr5) (T.obj _ _ st5)
    refine thn (hg C s2 H2 fp _ s5 _ H5 x u _ I5' r5 (step x H5 y5)) fun _ s6 ⟨σ6,H6,I6,kp,q6⟩=>?_
    refine thn (ht C s2 H2 fp _ s6 σ6 H6 _ I6 q6) fun b s7 ⟨H7,I7,q7⟩=>?_
    cases b with
    |false =>
     rw[if_neg Bool.false_ne_true]at q7 ⊢
     refine⟨n-(i+1),Nat.sub_succ_lt_self n i hlt,i+1,ys,H7,its,ep,rfl,hlt,Nat.le_succ_of_le hyl,rv,I7.unpinned.weak kp.length kp.get,?_,fun b hb=>?_,q7⟩
     ·exact T.keep _ _ _ st5 fun b hb o e=>(I7.pin (b,o) (inF (mem_pinsAt hb e))).1
     ·obtain⟨o,e,d⟩:=T.obj _ _ st5 b hb
      exact(I7.pin (b,o) (inF (mem_pinsAt hb e))).2.1
    |true =>
     rw[if_pos rfl]at q7 ⊢
     refine thn (he C s2 H2 fp _ s7 σ6 H7 _ I7 q7) fun yv s8 ⟨y,H8,I8,r8,q8⟩=>?_
     obtain⟨eD,nD,_⟩:=I8.pin (D,{ cls:=.type "list",data:=.seq its.toArray ep }) inD
     have hsz:its.toArray.size<=sizeLine:=by
      rw[List.size_toArray,<- rv.length]
      exact Nat.le_trans hyl (Nat.le_trans hin hn)
     refine wpAny_list_append_plain (items:=its.toArray) ⟨ep,eD⟩ (fun h9 pl9 sb9=>?_) hsz
     obtain⟨ep',e9⟩:=pl9
     have e9:h9.get? D=some { cls:=.type "list",data:=.seq (its++[yv]).toArray ep' }:=by rw[e9];simp
     have Ia:Inv Y pins σ6 H8 s8:=I8.pins_of fun p hp=>I8.pin p (List.mem_append_right _ (List.mem_append_left _ (List.mem_append_left _ hp)))
     have Ib:Inv Y pins σ6 H8 { s8 with heap:=h9 }:=Ia.turned (it:=D) (t':=s8.toks) (fun b o hb e=>(sb9.2 b hb).trans e) nD hDC (.inr (Nat.le_refl _)) cellD pinD
     have Ic:Inv Y (pins++[(D,{ cls:=.type "list",data:=.seq (its++[yv]).toArray ep' })]) σ6 H8 { s8 with heap:=h9 }:=Ib.pins_of fun p hp=>by
      rcases List.mem_append.mp hp with hp | hp
      ·exact Ib.pin p (List.mem_append_right _ hp)
      ·have q:p=(D,{ cls:=.type "list",data:=.seq (its++[yv]).toArray ep' }):=by simpa using hp
       subst q
       obtain⟨_,_,z1,z2,_⟩:=I8.pin (D,{ cls:=.type "list",data:=.seq its.toArray ep }) inD
       exact⟨e9,nD,z1,z2,fun v z=>by cases z⟩
     refine⟨n-(i+1),Nat.sub_succ_lt_self n i hlt,i+1,ys++[y],H8,its++[yv],ep',rfl,hlt,by simp;omega,Vals.append rv (.cons r8 .nil),Ic.weak kp.length kp.get,?_,fun b hb=>?_,q8⟩
     ·exact T.keep _ _ _ st5 fun b hb o e=>sb9.extBut b o (fun z=>hDfp (by rw[show D=b from Eq.symm z];exact hb)) (I8.pin (b,o) (inF (mem_pinsAt hb e))).1
     ·obtain⟨o,e,d⟩:=T.obj _ _ st5 b hb
      exact(I8.pin (b,o) (inF (mem_pinsAt hb e))).2.1
  ·obtain⟨ep,e⟩:=hacc
   refine⟨0,[],H2,[],ep,rfl,Nat.zero_le _,Nat.le_refl _,.nil,?_,st4,fun b hb=>(f2 b hb).1,p0⟩
   exact cxIn_inv (s4:={ s2 with heap:=h₁,toks:=s2.toks+([]:List (Str×Value)).length }) S I2 hCle f2 hfo rfl rfl old hns₁ e (Nat.le_refl _) hDC fun v z=>by cases z
 exact codeAny_compStart_list (loop _ rfl) (T.self X.A 0 _ _ _ st4 (loop _ rfl))
theorem pe_comp(hc:X.calm=true)(S:CompScope N' cap X.N X.env.scope scope)(hi:PI X tg iter wi)(hg:∀ C s H fp,PG (cxIn X N' scope C s H fp) tg g)
  (ht:∀ C s H fp,PF (cxIn X N' scope C s H fp) ifs tc) (he:∀ C s H fp,PE (cxIn X N' scope C s H fp) elt te)
  (hs:∀ x,foldedSetIterable iter X.env x=pure x:=by intro _;rfl):PE X (.ListComp elt [⟨tg,iter,ifs,0⟩] scope pos) (tComp cap wi g tc te):=by
 intro pins s σ H Q I h
 rw[eval_ListComp]
 refine wpAny_comprehension_free (use:=none) rfl hs (closureFor_cells (S.clos I)) S.kind S.loc (thn (comp_run (pos:=pos) hc S hi hg ht he I h) fun x s1 h1=>thn h1 fun it s2 h2=>thn h2 fun acc s3 h3=>thn h3 fun cenv s4 h4=>?_)
 refine codeAny_mono h4 fun r s' hr=>?_
 cases r with
 |error x=>exact hr.elim
 |ok f =>
  obtain⟨v,H',I',rv,q,⟨m,hn⟩,f0,f1,f2,f3,f4,f5⟩:=hr
  refine⟨m,hn,fun h' sb=>⟨v,H',I'.turned (it:=cenv.locals) (t':=s'.toks) (fun b o hb e=>(sb.2 b hb).trans e) f0 f1 f3 f4 f5,rv,q⟩⟩
theorem ps_comp{i:Nat}{x:Str}{pos' spos:Pos}(hN:X.N.Nodup)(hx:X.N[i]?=some x)(hl:Loc X.env.scope x)(hc:X.calm=true)(S:CompScope N' cap X.N X.env.scope scope)(hi:PI X tg iter wi)(hg:∀ C s H fp,PG (cxIn X N' scope C s H fp) tg g)
  (ht:∀ C s H fp,PF (cxIn X N' scope C s H fp) ifs tc) (he:∀ C s H fp,PE (cxIn X N' scope C s H fp) elt te)
  (hs:∀ x,foldedSetIterable iter X.env x=pure x:=by intro _;rfl) (hsw:swapsWith (.ListComp elt [⟨tg,iter,ifs,0⟩] scope pos) (some (.Name x pos')) spos.line X.env=pure true:=by rfl)
  (hf:X.fn x=true\/X.env.scope.names.lookup x=some .local:=by first | exact .inl rfl | exact .inr rfl | assumption) :
  PS X (.Assign [.Name x pos'] (.ListComp elt [⟨tg,iter,ifs,0⟩] scope pos) spos) (tAsg (tComp cap wi g tc te) (gName i)):=by
 intro pins s σ H D I h
 rw[exec_Assign_Name_used _ _ _ _ hsw]
 refine wpAny_bind (wpAny_standAt (wpAny_bind ?_))
 show wpAny _ _ (do let _ <- comprehension (.ListComp elt [⟨tg,iter,ifs,0⟩] scope pos) scope X.env _ (newList []) false (eval iter X.env) (some (assign (.Name x pos') X.env))) _ _ s
 refine wpAny_bind (wpAny_mono (wpAny_comprehension_free (use:=some (assign (.Name x pos') X.env)) (Q:=fun _ s'=>SP X pins D .next s') rfl hs (closureFor_cells (S.clos I)) S.kind S.loc
  (thn (comp_run (pos:=pos) hc S hi hg ht he I h) fun x s1 h1=>thn h1 fun it s2 h2=>thn h2 fun acc s3 h3=>thn h3 fun cenv s4 h4=>?_)) (fun _ s' hq=>wpAny_pure (wpAny_pure hq)) fun _ _ e=>e)
 refine codeAny_mono h4 fun r s' hr=>?_
 cases r with
 |error x=>exact hr.elim
 |ok f =>
  obtain⟨v,H',I',rv,q,⟨m,hn⟩,f0,f1,f2,f3,f4,f5⟩:=hr
  show wpAny _ _ (assign (.Name _ pos') X.env acc) _ _ _
  refine wpAny_assign_Name (store_ok2 I' hN hx hl rv (fun s'' I'' ⟨a,sb,ha⟩=>?_) hf)
  have hac:cenv.locals≠a:=by
   rcases ha with ha | ha
   ·rw[ha];exact f1
   ·exact Ne.symm (f4 _ a ha)
  refine⟨m,hn.sameBut sb hac,fun h' sb'=>⟨_,H',I''.turned (it:=cenv.locals) (t':=s''.toks) (fun b o hb e=>(sb'.2 b hb).trans e) f0 f1 f3 f4 f5,q⟩⟩
end
end L2
namespace Srt
open PySem PyProof.Rows
noncomputable def LtOk(κ:KeyKind)(kd:SortKind)(prog:Program)(w:World)(A:Around)(s:Shared):Prop :=
 ∀ (E:Value->Shared->Prop) (x y:Keyed) (a b:κ.α) (Q:Option Bool->SortSt->Prop) (st:SortSt),kindOf st=kd->κ.keyOf x.1=some a->κ.keyOf y.1=some b ->
  Q (some (κ.blt a b)) st->wpS (model prog w) A E s (lt' x y) Q st
structure SB(kd:SortKind)(a₀ b:Array Keyed)(lo:Nat)(pd:Array (Nat×Nat×Nat))(st:SortSt):Prop where
 perm:(arrOf st).Perm a₀
 kind:kindOf st=kd
 failed:failedOf st=none
 pend:pendingOf st=pd
 low:∀ k,k<lo->(arrOf st)[k]?=b[k]?
noncomputable def SIn(κ:KeyKind)(xs:Array Keyed)(lo n:Nat):Prop:=∀ i j,i<=j->j<n->κ.kle (KK κ xs (lo+i)) (KK κ xs (lo+j))
noncomputable def DIn(κ:KeyKind)(xs:Array Keyed)(lo n:Nat):Prop:=∀ i j,i<=j->j<n->κ.kle (KK κ xs (lo+j)) (KK κ xs (lo+i))
theorem at_key{κ:KeyKind}{a₀ xs:Array Keyed}(hp:xs.Perm a₀)(h0:KeysOf κ a₀){i:Nat}(hi:i<xs.size):∃ p a,xs[i]?=some p/\κ.keyOf p.1=some a/\KK κ xs i=a:=by
 have hm:xs[i]∈a₀.toList:=(Array.perm_iff_toList_perm.mp hp).mem_iff.mp (by simp)
 obtain⟨a,ha⟩:=h0 _ hm
 have e:xs[i]?=some xs[i]:=getElem?_pos _ i hi
 refine⟨xs[i],a,e,ha,?_⟩
 unfold KK;rw[e];simp[ha]
section
variable{prog:Program}{w:World}{A:Around}{E:Value->Shared->Prop}{s:Shared}{a₀ b:Array Keyed}{κ:KeyKind}{kd:SortKind}{lo:Nat}{pd:Array (Nat×Nat×Nat)}
theorem SB.size{st:SortSt}(h:SB kd a₀ b lo pd st):(arrOf st).size=a₀.size:=h.perm.size_eq
theorem SB.arr{st:SortSt}(h:SB kd a₀ b lo pd st){xs:Array Keyed}(hp:xs.Perm (arrOf st))(hl:∀ k,k<lo->xs[k]?=(arrOf st)[k]?):SB kd a₀ b lo pd (setArr st xs) :=
 ⟨hp.trans h.perm,h.kind,h.failed,h.pend,fun k hk=>(hl k hk).trans (h.low k hk)⟩
theorem SB.mirror{st:SortSt}(h:SB kd a₀ b lo pd st){i j:Nat}(hi:lo<=i)(hj:j<=a₀.size):SB kd a₀ b lo pd (setArr st (mirror (arrOf st) i j ((j-i) / 2))) :=
 h.arr (mirror_perm _ _ _ _) fun k hk=>by rw[getElem?_mirror_all (by rw[h.size];exact hj),if_neg (by lia)]
theorem elem_ok{arr:Array Keyed}{i:Nat}{p:Keyed}{Q:Keyed->SortSt->Prop}{st:SortSt}(h:arr[i]?=some p)(hq:Q p st):wpS (model prog w) A E s (elem' arr i) Q st:=by
 rw[elem'_eq,h];exact wpS_pure hq
theorem ltAt_ok{st:SortSt}{i j:Nat}{Q:Option Bool->SortSt->Prop}(hO:LtOk κ kd prog w A s)(hB:SB kd a₀ b lo pd st)(h0:KeysOf κ a₀)(hi:i<a₀.size)(hj:j<a₀.size)
  (h:Q (some (κ.blt (KK κ (arrOf st) i) (KK κ (arrOf st) j))) st):wpS (model prog w) A E s (ltAt' i j) Q st:=by
 obtain⟨x,a,e1,ha,ka⟩:=at_key hB.perm h0 (i:=i) (by rw[hB.size];exact hi)
 obtain⟨y,c,e2,hc,kc⟩:=at_key hB.perm h0 (i:=j) (by rw[hB.size];exact hj)
 rw[ka,kc]at h
 rw[ltAt'_eq]
 refine wpS_bind (wpS_get (wpS_bind (elem_ok e1 (wpS_bind (elem_ok e2 ?_)))))
 exact hO E x y a c Q st hB.kind ha hc h
theorem rev_ok{st:SortSt}{i j:Nat}{Q:Unit->SortSt->Prop}(h:Q () (setArr st (mirror (arrOf st) i j ((j-i) / 2)))):wpS (model prog w) A E s (reverseSlice' i j) Q st:=by
 rw[reverseSlice'_eq];exact wpS_modify h
theorem bcong{σ α β:Type}{m m':StateT σ Sem α}{f f':α->StateT σ Sem β}(h:m=m')(hf:∀ a,f a=f' a):(m >>= f)=(m' >>= f'):=by
 subst h
 rw[show f=f' from funext hf]
noncomputable def asc(lo a nrem:Nat):StateT SortSt Sem AscSt :=
 forIn [a:nrem] ((none,a):AscSt) fun _ c=>do
  let x <- ltAt' (lo+c.2) (lo+c.2-1)
  match x with
  |some sm=>if sm=true then pure (ForInStep.done (none,c.2))else pure (ForInStep.yield (none,c.2+1))
  | _=>pure (ForInStep.done (some none,c.2))
noncomputable def tl3(lo n nrem:Nat):StateT SortSt Sem (Option Nat):=do
 reverseSlice' lo (lo+n)
 let c <- asc lo n nrem
 match c.1 with
 |some r=>pure r
 |none=>pure (some c.2)
noncomputable def dsc(lo n nrem:Nat):StateT SortSt Sem DescSt :=
 forIn [n:nrem] ((none,n,0):DescSt) fun _ c=>do
  let x <- ltAt' (lo+c.2.1) (lo+c.2.1-1)
  match x with
  |some sm =>
   if sm=true then
    if c.2.2 > 0 then do
     reverseSlice' (lo+c.2.1-(c.2.2+1)) (lo+c.2.1)
     pure (ForInStep.yield (none,c.2.1+1,0))
    else pure (ForInStep.yield (none,c.2.1+1,0))
   else do
    let x <- ltAt' (lo+c.2.1-1) (lo+c.2.1)
    match x with
    |some la =>
     if la=true then pure (ForInStep.done (none,c.2.1,c.2.2))
     else pure (ForInStep.yield (none,c.2.1+1,c.2.2+1))
    | _=>pure (ForInStep.done (some none,c.2.1,c.2.2))
  | _=>pure (ForInStep.done (some none,c.2.1,c.2.2))
noncomputable def dpt(lo n nrem:Nat):StateT SortSt Sem (Option Nat):=do
 liftM (rule "list.sort.descending-run")
 let c <- dsc lo (n+1) nrem
 match c.1 with
 |some r=>pure r
 |none =>
  if c.2.2 > 0 then do
   reverseSlice' (lo+c.2.1-(c.2.2+1)) (lo+c.2.1)
   tl3 lo c.2.1 nrem
  else tl3 lo c.2.1 nrem
theorem count_eq(lo nrem:Nat):countRun' lo nrem=(do
  let c <- asc lo 1 nrem
  match c.1 with
  |some r=>pure r
  |none =>
   if(c.2 == nrem)=true then pure (some c.2)
   else if c.2 > 1 then do
    let x <- ltAt' lo (lo+c.2-1)
    match x with
    |some rose=>if rose=true then pure (some c.2)else do
      reverseSlice' lo (lo+c.2)
      dpt lo c.2 nrem
    | _=>pure none
   else dpt lo c.2 nrem):=by
 rw[countRun'_eq]
 unfold dpt tl3 dsc asc
 refine bcong rfl fun c=>?_
 obtain⟨r,n⟩:=c
 cases r with
 |some r=>rfl
 |none =>
  dsimp only
  split
  ·rfl
  ·split
   ·refine bcong rfl fun x=>?_
    cases x with
    |none=>rfl
    |some rose =>
     dsimp only
     split
     ·rfl
     ·refine bcong rfl fun _=>bcong rfl fun _=>bcong rfl fun s2=>?_
      obtain⟨r2,n2,q2⟩:=s2
      cases r2 with
      |some r2=>rfl
      |none =>
       dsimp only
       split
       ·refine bcong rfl fun _=>bcong rfl fun _=>bcong rfl fun s3=>?_
        obtain⟨r3,n3⟩:=s3
        cases r3 <;> rfl
       ·refine bcong rfl fun _=>bcong rfl fun s3=>?_
        obtain⟨r3,n3⟩:=s3
        cases r3 <;> rfl
   ·refine bcong rfl fun _=>bcong rfl fun s2=>?_
    obtain⟨r2,n2,q2⟩:=s2
    cases r2 with
    |some r2=>rfl
    |none =>
     dsimp only
     split
     ·refine bcong rfl fun _=>bcong rfl fun _=>bcong rfl fun s3=>?_
      obtain⟨r3,n3⟩:=s3
      cases r3 <;> rfl
     ·refine bcong rfl fun _=>bcong rfl fun s3=>?_
      obtain⟨r3,n3⟩:=s3
      cases r3 <;> rfl
theorem asc_ok{st:SortSt}{a nrem:Nat}{Q:AscSt->SortSt->Prop}(hO:LtOk κ kd prog w A s)(h0:KeysOf κ a₀)(hn:lo+nrem<=a₀.size)(ha:1<=a)(han:a<=nrem)(hB:SB kd a₀ b lo pd st)(hs:SIn κ (arrOf st) lo a)
  (h:∀ n,a<=n->n<=nrem->SIn κ (arrOf st) lo n->(n=nrem\/κ.klt (KK κ (arrOf st) (lo+n)) (KK κ (arrOf st) (lo+n-1)))->Q (none,n) st):wpS (model prog w) A E s (asc lo a nrem) Q st:=by
 unfold asc
 refine wpS_forRange (I:=fun x c st'=>st'=st/\c=(none,x)/\SIn κ (arrOf st) lo x) ?step ?fin ⟨rfl,rfl,hs⟩
 case fin =>
  rintro c st' ⟨rfl,rfl,g⟩
  rw[show max a nrem=nrem by lia]at g ⊢
  exact h nrem han (Nat.le_refl _) g (.inl rfl)
 case step =>
  rintro x c st' hax hxn ⟨rfl,rfl,g⟩
  dsimp only
  refine wpS_bind (ltAt_ok hO hB h0 (by lia) (by omega) ?_)
  cases q:κ.blt (KK κ (arrOf st') (lo+x)) (KK κ (arrOf st') (lo+x-1))with
  |true=>exact wpS_pure (h x hax (by lia) g (.inr q))
  |false =>
   refine wpS_pure ⟨rfl,rfl,fun i j hij hj=>?_⟩
   by_cases z:j<x
   ·exact g i j hij z
   ·have z:j=x:=by lia
    subst z
    by_cases y:i=j
    ·subst y;exact KeyOrd.kle_refl _
    ·have u:=g i (j-1) (by lia) (by lia)
     rw[show lo+(j-1)=lo+j-1 by lia]at u
     exact KeyOrd.kle_trans u q
theorem tl3_ok{st:SortSt}{n nrem:Nat}{Q:Option Nat->SortSt->Prop}(hO:LtOk κ kd prog w A s)(h0:KeysOf κ a₀)(hn:lo+nrem<=a₀.size)(h1:1<=n)(hnn:n<=nrem)(hB:SB kd a₀ b lo pd st)(hs:DIn κ (arrOf st) lo n)
  (h:∀ m st',SB kd a₀ b lo pd st'->1<=m->m<=nrem->SIn κ (arrOf st') lo m->Q (some m) st'):wpS (model prog w) A E s (tl3 lo n nrem) Q st:=by
 unfold tl3
 have hsz:lo+n<=(arrOf st).size:=by rw[hB.size];lia
 have hB':=hB.mirror (i:=lo) (j:=lo+n) (Nat.le_refl _) (by lia)
 refine wpS_bind (rev_ok (wpS_bind (asc_ok hO h0 hn h1 hnn hB' ?_ fun m p1 p2 p3 _=>wpS_pure (h m _ hB' (by lia) p2 p3))))
 intro i j hij hj
 show κ.kle (KK κ (mirror (arrOf st) lo (lo+n) ((lo+n-lo) / 2)) (lo+i)) (KK κ (mirror (arrOf st) lo (lo+n) ((lo+n-lo) / 2)) (lo+j))
 rw[KK_mirror hsz,KK_mirror hsz,if_pos (by lia),if_pos (by lia),show lo+(lo+n)-1-(lo+i)=lo+(n-1-i) by lia,show lo+(lo+n)-1-(lo+j)=lo+(n-1-j) by omega]
 exact hs _ _ (by omega) (by omega)
theorem dsc_ok{st:SortSt}{n nrem:Nat}{Q:DescSt->SortSt->Prop}(hO:LtOk κ kd prog w A s)(h0:KeysOf κ a₀)(hn:lo+nrem<=a₀.size)(h1:1<=n)(hnn:n<=nrem)(hB:SB kd a₀ b lo pd st)(hs:DIn κ (arrOf st) lo n)
  (h:∀ m q st',SB kd a₀ b lo pd st'->n<=m->m<=nrem->DIn κ (arrOf st') lo m->q+1<=m->(∀ i,m-(q+1)<=i->i<m->KK κ (arrOf st') (lo+i)=KK κ (arrOf st') (lo+m-1))->Q (none,m,q) st') :
  wpS (model prog w) A E s (dsc lo n nrem) Q st:=by
 unfold dsc
 refine wpS_forRange (I:=fun x c st'=>∃ q,c=(none,x,q)/\SB kd a₀ b lo pd st'/\DIn κ (arrOf st') lo x/\q+1<=x/\(∀ i,x-(q+1)<=i->i<x->KK κ (arrOf st') (lo+i)=KK κ (arrOf st') (lo+x-1))) ?step ?fin
  ⟨0,rfl,hB,hs,by omega,fun i h1 h2=>by rw[show lo+i=lo+n-1 by lia]⟩
 case fin =>
  rintro c st' ⟨q,rfl,g1,g2,g3,g4⟩
  rw[show max n nrem=nrem by lia]at g2 g3 g4 ⊢
  exact h nrem q st' g1 hnn (Nat.le_refl _) g2 g3 g4
 case step =>
  rintro x c st' hax hxn ⟨q,rfl,g1,g2,g3,g4⟩
  dsimp only
  have hsz:lo+x<=(arrOf st').size:=by rw[g1.size];lia
  refine wpS_bind (ltAt_ok hO g1 h0 (by lia) (by lia) ?_)
  cases t:κ.blt (KK κ (arrOf st') (lo+x)) (KK κ (arrOf st') (lo+x-1))with
  |true =>
   have step1:∀ xs:Array Keyed,(∀ k,KK κ xs k=KK κ (arrOf st') k)->DIn κ xs lo (x+1):=by
    intro xs hk i j hij hj
    rw[hk,hk]
    by_cases z:j<x
    ·exact g2 i j hij z
    ·have z:j=x:=by lia
     subst z
     by_cases y:i=j
     ·subst y;exact KeyOrd.kle_refl _
     ·have u:=g2 i (j-1) (by lia) (by lia)
      rw[show lo+(j-1)=lo+j-1 by lia]at u
      exact KeyOrd.kle_trans (KeyOrd.kle_of_klt t) u
   dsimp only
   rw[if_pos rfl]
   by_cases y:q > 0
   ·rw[if_pos y]
    have eqs:∀ k,lo+x-(q+1)<=k->k<lo+x->KK κ (arrOf st') k=KK κ (arrOf st') (lo+x-1):=fun k k1 k2=>by
     have u:=g4 (k-lo) (by omega) (by lia)
     rwa [show lo+(k-lo)=k by lia]at u
    refine wpS_bind (rev_ok (wpS_pure ⟨0,rfl,g1.mirror (by omega) (by lia),step1 _ (KK_mirror_equal hsz eqs),by lia,fun i h1 h2=>by rw[show lo+i=lo+(x+1)-1 by lia]⟩))
   ·rw[if_neg y]
    exact wpS_pure ⟨0,rfl,g1,step1 _ (fun _=>rfl),by lia,fun i h1 h2=>by rw[show lo+i=lo+(x+1)-1 by lia]⟩
  |false =>
   dsimp only
   rw[if_neg Bool.false_ne_true]
   refine wpS_bind (ltAt_ok hO g1 h0 (by lia) (by lia) ?_)
   cases u:κ.blt (KK κ (arrOf st') (lo+x-1)) (KK κ (arrOf st') (lo+x))with
   |true=>exact wpS_pure (h x q st' g1 hax (by lia) g2 g3 g4)
   |false =>
    have ex:KK κ (arrOf st') (lo+x)=KK κ (arrOf st') (lo+x-1):=KeyOrd.kle_antisymm u t
    refine wpS_pure ⟨q+1,rfl,g1,fun i j hij hj=>?_,by lia,fun i h1 h2=>?_⟩
    ·by_cases z:j<x
     ·exact g2 i j hij z
     ·have z:j=x:=by lia
      subst z
      by_cases y:i=j
      ·subst y;exact KeyOrd.kle_refl _
      ·rw[ex]
       have v:=g2 i (j-1) (by lia) (by lia)
       rwa [show lo+(j-1)=lo+j-1 by lia]at v
    ·rw[show lo+(x+1)-1=lo+x by lia]
     by_cases z:i=x
     ·subst z;rfl
     ·rw[ex];exact g4 i (by lia) (by lia)
theorem dpt_ok{st:SortSt}{n nrem:Nat}{Q:Option Nat->SortSt->Prop}(hO:LtOk κ kd prog w A s)(h0:KeysOf κ a₀)(hn:lo+nrem<=a₀.size)(hnn:n+1<=nrem)(hB:SB kd a₀ b lo pd st)(hs:DIn κ (arrOf st) lo (n+1))
  (h:∀ m st',SB kd a₀ b lo pd st'->1<=m->m<=nrem->SIn κ (arrOf st') lo m->Q (some m) st'):wpS (model prog w) A E s (dpt lo n nrem) Q st:=by
 unfold dpt
 refine wpS_bind (wpS_lift (wpAny_rule ⟨rfl,wpS_bind (dsc_ok hO h0 hn (by lia) hnn hB hs fun m q st' g1 m1 m2 g2 g3 g4=>?_)⟩))
 dsimp only
 have hsz:lo+m<=(arrOf st').size:=by rw[g1.size];lia
 by_cases y:q > 0
 ·rw[if_pos y]
  have eqs:∀ k,lo+m-(q+1)<=k->k<lo+m->KK κ (arrOf st') k=KK κ (arrOf st') (lo+m-1):=fun k k1 k2=>by
   have u:=g4 (k-lo) (by omega) (by lia)
   rwa [show lo+(k-lo)=k by lia]at u
  refine wpS_bind (rev_ok (tl3_ok hO h0 hn (by lia) m2 (g1.mirror (by omega) (by lia)) (fun i j hij hj=>?_) h))
  show κ.kle (KK κ (mirror (arrOf st') _ _ _) (lo+j)) (KK κ (mirror (arrOf st') _ _ _) (lo+i))
  rw[KK_mirror_equal hsz eqs,KK_mirror_equal hsz eqs]
  exact g2 i j hij hj
 ·rw[if_neg y]
  exact tl3_ok hO h0 hn (by lia) m2 g1 g2 h
theorem count_ok{st:SortSt}{nrem:Nat}{Q:Option Nat->SortSt->Prop}(hO:LtOk κ kd prog w A s)(h0:KeysOf κ a₀)(hn:lo+nrem<=a₀.size)(h1:1<=nrem)(hB:SB kd a₀ b lo pd st)
  (h:∀ m st',SB kd a₀ b lo pd st'->1<=m->m<=nrem->SIn κ (arrOf st') lo m->Q (some m) st'):wpS (model prog w) A E s (countRun' lo nrem) Q st:=by
 rw[count_eq]
 refine wpS_bind (asc_ok hO h0 hn (Nat.le_refl 1) h1 hB (fun i j hij hj=>by rw[show i=j by lia];exact KeyOrd.kle_refl _) fun n n1 n2 g1 g2=>?_)
 dsimp only
 by_cases z:n=nrem
 ·rw[if_pos (by simpa using z)]
  exact wpS_pure (h n st hB n1 n2 g1)
 ·rw[if_neg (by simpa using z)]
  have t:=g2.resolve_left z
  by_cases y:n > 1
  ·rw[if_pos y]
   refine wpS_bind (ltAt_ok hO hB h0 (by lia) (by omega) ?_)
   cases u:κ.blt (KK κ (arrOf st) lo) (KK κ (arrOf st) (lo+n-1))with
   |true=>exact wpS_pure (h n st hB n1 n2 g1)
   |false =>
    have hsz:lo+n<=(arrOf st).size:=by rw[hB.size];lia
    have eqs:∀ k,lo<=k->k<lo+n->KK κ (arrOf st) k=KK κ (arrOf st) (lo+n-1):=fun k k1 k2=>by
     have a1:=g1 0 (k-lo) (by lia) (by omega)
     have a2:=g1 (k-lo) (n-1) (by lia) (by omega)
     rw[show lo+(k-lo)=k by lia]at a1 a2
     rw[show lo+(n-1)=lo+n-1 by lia]at a2
     exact KeyOrd.kle_antisymm a2 (KeyOrd.kle_trans u a1)
    dsimp only
    rw[if_neg Bool.false_ne_true]
    refine wpS_bind (rev_ok (dpt_ok hO h0 hn (by lia) (hB.mirror (Nat.le_refl _) (by lia)) (fun i j hij hj=>?_) h))
    show κ.kle (KK κ (mirror (arrOf st) _ _ _) (lo+j)) (KK κ (mirror (arrOf st) _ _ _) (lo+i))
    rw[KK_mirror_equal hsz eqs,KK_mirror_equal hsz eqs]
    by_cases v:j<n
    ·rw[eqs (lo+i) (by lia) (by lia),eqs (lo+j) (by lia) (by lia)];exact KeyOrd.kle_refl _
    ·have v:j=n:=by lia
     subst v
     by_cases v:i=j
     ·subst v;exact KeyOrd.kle_refl _
     ·rw[eqs (lo+i) (by lia) (by lia)];exact KeyOrd.kle_of_klt t
  ·rw[if_neg y]
   have z:n=1:=by lia
   subst z
   refine dpt_ok hO h0 hn (by lia) hB (fun i j hij hj=>?_) h
   by_cases v:i=j
   ·subst v;exact KeyOrd.kle_refl _
   ·have e1:i=0:=by lia
    have e2:j=1:=by lia
    subst e1 e2
    exact KeyOrd.kle_of_klt t
theorem bin_ok{st:SortSt}{n ok:Nat}{Q:Bool->SortSt->Prop}(hO:LtOk κ kd prog w A s)(h0:KeysOf κ a₀)(hn:lo+n<=a₀.size)(hok:ok<=n)(hB:SB kd a₀ b lo pd st)(hs:SIn κ (arrOf st) lo ok)
  (h:∀ st',SB kd a₀ b lo pd st'->SIn κ (arrOf st') lo n->Q true st'):wpS (model prog w) A E s (binarySort' lo n ok) Q st:=by
 rw[binarySort'_eq]
 refine wpS_bind (wpS_mono (wpS_forRange (I:=fun k c st'=>c=(none,())/\SB kd a₀ b lo pd st'/\SIn κ (arrOf st') lo (min k n)) (Q:=fun c st'=>c=(none,())/\SB kd a₀ b lo pd st'/\SIn κ (arrOf st') lo n) ?step ?fin ?init) ?post)
 case post =>
  rintro c st' ⟨rfl,g1,g2⟩
  exact wpS_pure (h st' g1 g2)
 case init =>
  refine⟨rfl,hB,fun i j hij hj=>?_⟩
  by_cases h1:ok=0
  ·rw[show i=j by lia];exact KeyOrd.kle_refl _
  ·exact hs i j hij (by lia)
 case fin =>
  rintro c st' ⟨g0,g1,g2⟩
  refine⟨g0,g1,?_⟩
  rwa [show min (max (max ok 1) n) n=n by lia]at g2
 case step =>
  rintro k c st' hak hkn ⟨rfl,g1,g2⟩
  rw[show min k n=k by lia]at g2
  have hk:lo+k<a₀.size:=by lia
  refine wpS_bind (wpS_mono (wpS_forRange (I:=fun x c st''=>st''=st'/\∃ l r,c=(none,l,r)/\l<=r/\r<=k/\r-l<=k-x/\(∀ i,i<l->κ.kle (KK κ (arrOf st') (lo+i)) (KK κ (arrOf st') (lo+k))) /\
     (∀ i,r<=i->i<k->κ.klt (KK κ (arrOf st') (lo+k)) (KK κ (arrOf st') (lo+i))))
   (Q:=fun c st''=>st''=st'/\∃ l r,c=(none,l,r)/\l<=k/\(∀ i,i<l->κ.kle (KK κ (arrOf st') (lo+i)) (KK κ (arrOf st') (lo+k)))/\(∀ i,l<=i->i<k->κ.klt (KK κ (arrOf st') (lo+k)) (KK κ (arrOf st') (lo+i)))) ?istep ?ifin ?iinit) ?ipost)
  case iinit=>exact⟨rfl,0,k,rfl,by lia,by lia,by lia,fun i hi=>by lia,fun i h1 h2=>by lia⟩
  case ifin =>
   rintro c st'' ⟨rfl,l,r,rfl,i1,i2,i3,i4,i5⟩
   have z:l=r:=by lia
   subst z
   exact⟨rfl,l,l,rfl,i2,i4,i5⟩
  case istep =>
   rintro x c st'' _ hxk ⟨rfl,l,r,rfl,i1,i2,i3,i4,i5⟩
   dsimp only
   by_cases y:l >= r
   ·rw[if_pos y]
    have z:l=r:=by lia
    subst z
    exact wpS_pure ⟨rfl,l,l,rfl,i2,i4,i5⟩
   ·rw[if_neg y]
    refine wpS_bind (ltAt_ok hO g1 h0 hk (by lia) ?_)
    cases t:κ.blt (KK κ (arrOf st'') (lo+k)) (KK κ (arrOf st'') (lo+(l+r) / 2))with
    |true =>
     refine wpS_pure ⟨rfl,l,(l+r) / 2,rfl,by lia,by lia,by omega,i4,fun i h1 h2=>?_⟩
     exact KeyOrd.klt_of_klt_of_kle t (g2 _ _ h1 h2)
    |false =>
     refine wpS_pure ⟨rfl,(l+r) / 2+1,r,rfl,by lia,by omega,by omega,fun i h1=>?_,i5⟩
     exact KeyOrd.kle_trans (g2 i ((l+r) / 2) (by lia) (by lia)) (show κ.kle _ _ from t)
  case ipost =>
   rintro c st'' ⟨rfl,l,r,rfl,i2,i4,i5⟩
   show wpS _ _ _ _ (do moveDown' (lo+k) (lo+l);pure (ForInStep.yield (none,()))) _ _
   rw[moveDown'_eq]
   have hks:lo+k <(arrOf st'').size:=by rw[g1.size];exact hk
   refine wpS_bind (wpS_modify (wpS_pure ⟨rfl,g1.arr (bubble_perm _ _ _) fun m hm=>?_,?_⟩))
   ·rw[getElem?_bubble hks _ (by omega),if_neg (by omega),if_neg (by omega)]
   rw[show min (k+1) n=k+1 by lia]
   intro i j hij hj
   show κ.kle (KK κ (bubble (arrOf st'') (lo+k) (lo+k-(lo+l))) (lo+i)) (KK κ (bubble (arrOf st'') (lo+k) (lo+k-(lo+l))) (lo+j))
   rw[KK_bubble hks (by omega),KK_bubble hks (by omega),show lo+k-(lo+k-(lo+l))=lo+l by lia]
   have sh:∀ m,lo+l<lo+m->lo+m-1=lo+(m-1):=fun m hm=>by lia
   repeat' split
   all_goals first
    |(exfalso;lia)
    |exact KeyOrd.kle_refl _
    |exact i4 _ (by lia)
    |(rw[sh _ (by lia)];exact KeyOrd.kle_of_klt (i5 _ (by lia) (by lia)))
    |exact KeyOrd.kle_of_klt (i5 _ (by omega) (by omega))
    |exact g2 _ _ (by omega) (by lia)
    |(rw[sh _ (by lia),sh _ (by lia)];exact g2 _ _ (by omega) (by lia))
    |(rw[sh _ (by lia)];exact g2 _ _ (by lia) (by omega))
end
open PySem PyProof.Rows
noncomputable def gallopP:Bool->Keyed->Array Keyed->Nat->Nat->Nat->StateT SortSt Sem (Option Nat):=sortPriv% PySem.Builtin.gallop
noncomputable def bey(left:Bool)(key:Keyed)(arr:Array Keyed)(base i:Nat):StateT SortSt Sem (Option Bool):=do
 let x <- elem' arr (base+i)
 if left then lt' x key else return (<- lt' key x).map (!·)
noncomputable def gUp(left:Bool)(key:Keyed)(arr:Array Keyed)(base n hint maxofs:Nat):StateT SortSt Sem (Option (Option Nat)×Nat×Nat) :=
 forIn [0:n] ((none,0,1):Option (Option Nat)×Nat×Nat) fun _ c=>do
  if c.2.2 >= maxofs then pure (.done (none,c.2.1,c.2.2))else do
   let x <- bey left key arr base (hint+c.2.2)
   match x with
   |some more=>if(!more)=true then pure (.done (none,c.2.1,c.2.2))else pure (.yield (none,c.2.2,2 * c.2.2+1))
   | _=>pure (.done (some none,c.2.1,c.2.2))
noncomputable def gDn(left:Bool)(key:Keyed)(arr:Array Keyed)(base n hint maxofs:Nat):StateT SortSt Sem (Option (Option Nat)×Nat×Nat) :=
 forIn [0:n] ((none,0,1):Option (Option Nat)×Nat×Nat) fun _ c=>do
  if c.2.2 >= maxofs then pure (.done (none,c.2.1,c.2.2))else do
   let x <- bey left key arr base (hint-c.2.2)
   match x with
   |some found=>if found=true then pure (.done (none,c.2.1,c.2.2))else pure (.yield (none,c.2.2,2 * c.2.2+1))
   | _=>pure (.done (some none,c.2.1,c.2.2))
noncomputable def gBin(left:Bool)(key:Keyed)(arr:Array Keyed)(base n lo hi:Nat):StateT SortSt Sem (Option Nat):=do
 let c <- forIn [0:n] ((none,lo,hi):Option (Option Nat)×Nat×Nat) fun _ c=>do
  if c.2.1 >= c.2.2 then pure (.done (none,c.2.1,c.2.2))else do
   let x <- bey left key arr base (c.2.1+(c.2.2-c.2.1) / 2)
   match x with
   |some more=>if more=true then pure (.yield (none,c.2.1+(c.2.2-c.2.1) / 2+1,c.2.2))else pure (.yield (none,c.2.1,c.2.1+(c.2.2-c.2.1) / 2))
   | _=>pure (.done (some none,c.2.1,c.2.2))
 match c.1 with
 |some r=>pure r
 |none=>pure (some c.2.2)
theorem gallop_eq(left:Bool)(key:Keyed)(arr:Array Keyed)(base n hint:Nat):gallopP left key arr base n hint=(do
  let x <- bey left key arr base hint
  match x with
  |some right =>
   if right=true then do
    let c <- gUp left key arr base n hint (n-hint)
    match c.1 with
    |some r=>pure r
    |none=>gBin left key arr base n (hint+c.2.1+1) (hint+min c.2.2 (n-hint))
   else do
    let c <- gDn left key arr base n hint (hint+1)
    match c.1 with
    |some r=>pure r
    |none=>gBin left key arr base n (hint+1-min c.2.2 (hint+1)) (hint-c.2.1)
  | _=>pure none):=by
 refine bcong (m:=bey left key arr base hint) rfl fun x=>?_
 cases x with
 |none=>rfl
 |some right =>
  dsimp only
  split
  ·refine bcong rfl fun c=>?_
   obtain⟨r,l,o⟩:=c
   cases r with
   |some r=>rfl
   |none =>
    refine bcong rfl fun c=>?_
    obtain⟨r,l,o⟩:=c
    cases r <;> rfl
  ·refine bcong rfl fun c=>?_
   obtain⟨r,l,o⟩:=c
   cases r with
   |some r=>rfl
   |none =>
    refine bcong rfl fun c=>?_
    obtain⟨r,l,o⟩:=c
    cases r <;> rfl
section
variable{prog:Program}{w:World}{A:Around}{E:Value->Shared->Prop}{s:Shared}{kd:SortKind}{left:Bool}{key:Keyed}{arr:Array Keyed}{base n hint:Nat}{Pr:Nat->Bool}{st:SortSt}
noncomputable def BeyOk(prog:Program)(w:World)(A:Around)(s:Shared)(kd:SortKind)(left:Bool)(key:Keyed)(arr:Array Keyed)(base n:Nat)(Pr:Nat->Bool):Prop :=
 ∀ (i:Nat) (E:Value->Shared->Prop) (Q:Option Bool->SortSt->Prop) (st:SortSt),i<n->kindOf st=kd->Q (some (Pr i)) st->wpS (model prog w) A E s (bey left key arr base i) Q st
theorem gBin_ok{lo hi:Nat}{Q:Option Nat->SortSt->Prop}(hb:BeyOk prog w A s kd left key arr base n Pr)(hk:kindOf st=kd)(mono:∀ i j,i<=j->j<n->Pr j=true->Pr i=true)(h1:lo<=hi)(h2:hi<=n)
  (hl:∀ i,i<lo->Pr i=true) (hh:∀ i,hi<=i->i<n->Pr i=false) (h:∀ r,r<=n->(∀ i,i<r->Pr i=true)->(∀ i,r<=i->i<n->Pr i=false)->Q (some r) st) :
  wpS (model prog w) A E s (gBin left key arr base n lo hi) Q st:=by
 unfold gBin
 refine wpS_bind (wpS_mono (wpS_forRange (I:=fun x c st'=>st'=st/\∃ l r,c=(none,l,r)/\l<=r/\r<=n/\r-l<=n-x/\(∀ i,i<l->Pr i=true)/\(∀ i,r<=i->i<n->Pr i=false))
  (Q:=fun c st'=>st'=st/\∃ l r,c=(none,l,r)/\r<=n/\(∀ i,i<r->Pr i=true)/\(∀ i,r<=i->i<n->Pr i=false)) ?step ?fin ⟨rfl,lo,hi,rfl,h1,h2,by lia,hl,hh⟩) ?post)
 case post =>
  rintro c st' ⟨rfl,l,r,rfl,r1,r2,r3⟩
  exact wpS_pure (h r r1 r2 r3)
 case fin =>
  rintro c st' ⟨rfl,l,r,rfl,r1,r2,r3,r4,r5⟩
  have e:l=r:=by lia
  subst e
  exact⟨rfl,l,l,rfl,r2,r4,r5⟩
 case step =>
  rintro x c st' _ hx ⟨rfl,l,r,rfl,r1,r2,r3,r4,r5⟩
  dsimp only
  by_cases y:l >= r
  ·rw[if_pos y]
   have e:l=r:=by lia
   subst e
   exact wpS_pure ⟨rfl,l,l,rfl,r2,r4,r5⟩
  ·rw[if_neg y]
   refine wpS_bind (hb _ _ _ _ (by lia) hk ?_)
   cases t:Pr (l+(r-l) / 2)with
   |true=>exact wpS_pure ⟨rfl,_,_,rfl,by lia,by omega,by omega,fun i hi=>mono i _ (by lia) (by lia) t,r5⟩
   |false =>
    refine wpS_pure ⟨rfl,_,_,rfl,by lia,by lia,by omega,r4,fun i i1 i2=>?_⟩
    cases u:Pr i with
    |false=>rfl
    |true=>rw[mono _ i i1 i2 u]at t;cases t
theorem gallop_ok{Q:Option Nat->SortSt->Prop}(hb:BeyOk prog w A s kd left key arr base n Pr)(hk:kindOf st=kd)(mono:∀ i j,i<=j->j<n->Pr j=true->Pr i=true)(hh:hint<n)
  (h:∀ r,r<=n->(∀ i,i<r->Pr i=true)->(∀ i,r<=i->i<n->Pr i=false)->Q (some r) st):wpS (model prog w) A E s (gallopP left key arr base n hint) Q st:=by
 have anti:∀ i j,i<=j->j<n->Pr i=false->Pr j=false:=fun i j a b c=>by
  cases u:Pr j with
  |false=>rfl
  |true=>rw[mono i j a b u]at c;cases c
 rw[gallop_eq]
 refine wpS_bind (hb _ _ _ _ hh hk ?_)
 cases t:Pr hint with
 |true =>
  dsimp only
  rw[if_pos rfl]
  unfold gUp
  refine wpS_bind (wpS_mono (wpS_forRange (I:=fun x c st'=>st'=st/\∃ l o,c=(none,l,o)/\l<o/\x<o/\l<n-hint/\Pr (hint+l)=true)
   (Q:=fun c st'=>st'=st/\∃ l o,c=(none,l,o)/\l<o/\l<n-hint/\Pr (hint+l)=true/\(o >= n-hint\/(o<n-hint/\Pr (hint+o)=false))) ?step ?fin ⟨rfl,0,1,rfl,by lia,by lia,by omega,t⟩) ?post)
  case post =>
   rintro c st' ⟨rfl,l,o,rfl,c1,c2,c3,c4⟩
   dsimp only
   refine gBin_ok hb hk mono (by omega) (by omega) (fun i hi=>mono i _ (by lia) (by lia) c3) (fun i i1 i2=>?_) h
   rcases c4 with c4 |⟨c4,c5⟩
   ·omega
   ·exact anti _ i (by omega) i2 c5
  case fin =>
   rintro c st' ⟨rfl,l,o,rfl,c1,c2,c3,c4⟩
   exact⟨rfl,l,o,rfl,c1,c3,c4,.inl (by lia)⟩
  case step =>
   rintro x c st' _ hx ⟨rfl,l,o,rfl,c1,c2,c3,c4⟩
   dsimp only
   by_cases y:o >= n-hint
   ·rw[if_pos y]
    exact wpS_pure ⟨rfl,l,o,rfl,c1,c3,c4,.inl y⟩
   ·rw[if_neg y]
    refine wpS_bind (hb _ _ _ _ (by lia) hk ?_)
    cases u:Pr (hint+o)with
    |true=>exact wpS_pure ⟨rfl,o,_,rfl,by lia,by lia,by lia,u⟩
    |false=>exact wpS_pure ⟨rfl,l,o,rfl,c1,c3,c4,.inr ⟨by lia,u⟩⟩
 |false =>
  dsimp only
  rw[if_neg Bool.false_ne_true]
  unfold gDn
  refine wpS_bind (wpS_mono (wpS_forRange (I:=fun x c st'=>st'=st/\∃ l o,c=(none,l,o)/\l<o/\x<o/\l<=hint/\Pr (hint-l)=false)
   (Q:=fun c st'=>st'=st/\∃ l o,c=(none,l,o)/\l<o/\l<=hint/\Pr (hint-l)=false/\(o >= hint+1\/(o<hint+1/\Pr (hint-o)=true))) ?dstep ?dfin ⟨rfl,0,1,rfl,by lia,by lia,by lia,t⟩) ?dpost)
  case dpost =>
   rintro c st' ⟨rfl,l,o,rfl,c1,c2,c3,c4⟩
   dsimp only
   refine gBin_ok hb hk mono (by omega) (by omega) (fun i hi=>?_) (fun i i1 i2=>anti _ i i1 i2 c3) h
   rcases c4 with c4 |⟨c4,c5⟩
   ·omega
   ·exact mono i _ (by omega) (by omega) c5
  case dfin =>
   rintro c st' ⟨rfl,l,o,rfl,c1,c2,c3,c4⟩
   exact⟨rfl,l,o,rfl,c1,c3,c4,.inl (by lia)⟩
  case dstep =>
   rintro x c st' _ hx ⟨rfl,l,o,rfl,c1,c2,c3,c4⟩
   dsimp only
   by_cases y:o >= hint+1
   ·rw[if_pos y]
    exact wpS_pure ⟨rfl,l,o,rfl,c1,c3,c4,.inl y⟩
   ·rw[if_neg y]
    refine wpS_bind (hb _ _ _ _ (by omega) hk ?_)
    cases u:Pr (hint-o)with
    |false=>exact wpS_pure ⟨rfl,o,_,rfl,by lia,by lia,by lia,u⟩
    |true=>exact wpS_pure ⟨rfl,l,o,rfl,c1,c3,c4,.inr ⟨by lia,u⟩⟩
end
noncomputable def mergeLoP:Array Keyed->Array Keyed->StateT SortSt Sem (Array Keyed):=sortPriv% PySem.Builtin.mergeLo
noncomputable def mergeHiP:Array Keyed->Array Keyed->StateT SortSt Sem (Array Keyed):=sortPriv% PySem.Builtin.mergeHi
open PySem PyProof.Rows
noncomputable def kk(κ:KeyKind)(p:Keyed):κ.α:=(κ.keyOf p.1).getD κ.dflt
noncomputable def kL(κ:KeyKind)(p q:Keyed):Prop:=κ.kle (kk κ p) (kk κ q)
theorem KK_of{κ:KeyKind}{xs:Array Keyed}{i:Nat}{p:Keyed}(h:xs[i]?=some p):KK κ xs i=kk κ p:=by unfold KK;rw[h];rfl
structure MI(κ:KeyKind)(T o A B:List Keyed):Prop where
 perm:(o++(A++B)).Perm T
 so:o.Pairwise (kL κ)
 cr:∀ x∈o,∀ y∈A++B,kL κ x y
 sA:A.Pairwise (kL κ)
 sB:B.Pairwise (kL κ)
section
variable{κ:KeyKind}{T o A A' B B' blk:List Keyed}
theorem MI.a(h:MI κ T o (blk++A') B)(hx:∀ x∈blk,∀ y∈B,kL κ x y):MI κ T (o++blk) A' B:=by
 obtain⟨s1,s2,s3⟩:=List.pairwise_append.mp h.sA
 refine⟨?_,List.pairwise_append.mpr ⟨h.so,s1,fun x hx y hy=>h.cr x hx y (by simp[hy])⟩,fun x hx' y hy=>?_,s2,h.sB⟩
 ·have e:=h.perm
  simp only[List.append_assoc]at e ⊢
  exact e
 ·rcases List.mem_append.mp hx' with z | z
  ·exact h.cr x z y (by rcases List.mem_append.mp hy with q | q <;> simp[q])
  ·rcases List.mem_append.mp hy with q | q
   ·exact s3 x z y q
   ·exact hx x z y q
theorem MI.b(h:MI κ T o A (blk++B'))(hx:∀ x∈blk,∀ y∈A,kL κ x y):MI κ T (o++blk) A B':=by
 obtain⟨s1,s2,s3⟩:=List.pairwise_append.mp h.sB
 refine⟨?_,List.pairwise_append.mpr ⟨h.so,s1,fun x hx y hy=>h.cr x hx y (by simp[hy])⟩,fun x hx' y hy=>?_,h.sA,s2⟩
 ·refine List.Perm.trans ?_ h.perm
  rw[List.append_assoc]
  refine List.Perm.append_left o ?_
  rw[<- List.append_assoc,<- List.append_assoc]
  exact List.Perm.append_right B' List.perm_append_comm
 ·rcases List.mem_append.mp hx' with z | z
  ·exact h.cr x z y (by rcases List.mem_append.mp hy with q | q <;> simp[q])
  ·rcases List.mem_append.mp hy with q | q
   ·exact hx x z y q
   ·exact s3 x z y q
noncomputable def Good(κ:KeyKind)(T:List Keyed)(R:Array Keyed):Prop:=R.toList.Perm T/\R.toList.Pairwise (kL κ)
theorem MI.endB{R:Array Keyed}(h:MI κ T o A [])(e:R.toList=o++A):Good κ T R:=by
 refine⟨by rw[e];simpa using h.perm,?_⟩
 rw[e]
 exact List.pairwise_append.mpr ⟨h.so,h.sA,fun x hx y hy=>h.cr x hx y (by simp[hy])⟩
theorem MI.endA{R:Array Keyed}(h:MI κ T o [] B)(e:R.toList=o++B):Good κ T R:=by
 refine⟨by rw[e];simpa using h.perm,?_⟩
 rw[e]
 exact List.pairwise_append.mpr ⟨h.so,h.sB,fun x hx y hy=>h.cr x hx y (by simp[hy])⟩
theorem MI.last{R:Array Keyed}{l:Keyed}(h:MI κ T o [l] B)(hl:∀ y∈B,kL κ y l)(e:R.toList=o++B++[l]):Good κ T R:=by
 have h2:MI κ T (o++B) [l] []:=MI.b (blk:=B) (B':=[]) (by simpa using h) fun x hx y hy=>by
  rw[List.mem_singleton.mp hy]
  exact hl x hx
 exact h2.endB e
structure MH(κ:KeyKind)(T o A B:List Keyed):Prop where
 perm:(A++B++o).Perm T
 so:o.Pairwise (kL κ)
 cr:∀ x∈o,∀ y∈A++B,kL κ y x
 sA:A.Pairwise (kL κ)
 sB:B.Pairwise (kL κ)
theorem MH.a(h:MH κ T o (A'++blk) B)(hx:∀ x∈blk,∀ y∈B,kL κ y x):MH κ T (blk++o) A' B:=by
 obtain⟨s1,s2,s3⟩:=List.pairwise_append.mp h.sA
 refine⟨?_,List.pairwise_append.mpr ⟨s2,h.so,fun x hx y hy=>h.cr y hy x (by simp[hx])⟩,fun x hx' y hy=>?_,s1,h.sB⟩
 ·refine List.Perm.trans ?_ h.perm
  simp only[List.append_assoc]
  refine List.Perm.append_left A' ?_
  rw[<- List.append_assoc,<- List.append_assoc]
  exact List.Perm.append_right o List.perm_append_comm
 ·rcases List.mem_append.mp hx' with z | z
  ·rcases List.mem_append.mp hy with q | q
   ·exact s3 y q x z
   ·exact hx x z y q
  ·exact h.cr x z y (by rcases List.mem_append.mp hy with q | q <;> simp[q])
theorem MH.b(h:MH κ T o A (B'++blk))(hx:∀ x∈blk,∀ y∈A,kL κ y x):MH κ T (blk++o) A B':=by
 obtain⟨s1,s2,s3⟩:=List.pairwise_append.mp h.sB
 refine⟨?_,List.pairwise_append.mpr ⟨s2,h.so,fun x hx y hy=>h.cr y hy x (by simp[hx])⟩,fun x hx' y hy=>?_,h.sA,s1⟩
 ·have e:=h.perm
  simp only[List.append_assoc]at e ⊢
  exact e
 ·rcases List.mem_append.mp hx' with z | z
  ·rcases List.mem_append.mp hy with q | q
   ·exact hx x z y q
   ·exact s3 y q x z
  ·exact h.cr x z y (by rcases List.mem_append.mp hy with q | q <;> simp[q])
theorem MH.endA{R:Array Keyed}(h:MH κ T o [] B)(e:R.toList=B++o):Good κ T R:=by
 refine⟨by rw[e];simpa using h.perm,?_⟩
 rw[e]
 exact List.pairwise_append.mpr ⟨h.sB,h.so,fun x hx y hy=>h.cr y hy x (by simp[hx])⟩
theorem MH.endB{R:Array Keyed}(h:MH κ T o A [])(e:R.toList=A++o):Good κ T R:=by
 refine⟨by rw[e];simpa using h.perm,?_⟩
 rw[e]
 exact List.pairwise_append.mpr ⟨h.sA,h.so,fun x hx y hy=>h.cr y hy x (by simp[hx])⟩
theorem MH.first{R:Array Keyed}{l:Keyed}(h:MH κ T o A [l])(hl:∀ y∈A,kL κ l y)(e:R.toList=[l]++A++o):Good κ T R:=by
 have h2:MH κ T (A++o) [] [l]:=MH.a (blk:=A) (A':=[]) (by simpa using h) fun x hx y hy=>by
  rw[List.mem_singleton.mp hy]
  exact hl x hx
 exact h2.endA (by rw[e,List.append_assoc])
end
theorem drop_at{xs:Array Keyed}{i:Nat}{p:Keyed}(h:xs[i]?=some p):xs.toList.drop i=[p]++xs.toList.drop (i+1):=by
 have hi:i<xs.toList.length:=by
  have:=(Array.getElem?_eq_some_iff.mp h).1
  simpa using this
 rw[List.drop_eq_getElem_cons hi]
 have e:xs.toList[i]=p:=by
  have:=(Array.getElem?_eq_some_iff.mp h).2
  simpa using this
 rw[e];rfl
theorem take_at{xs:Array Keyed}{i:Nat}{p:Keyed}(h:xs[i]?=some p):xs.toList.take (i+1)=xs.toList.take i++[p]:=by
 rw[List.take_add_one]
 have e:xs.toList[i]?=some p:=by rw[<- h];simp
 rw[e];rfl
theorem mem_drop{xs:Array Keyed}{i:Nat}{y:Keyed}(h:y∈xs.toList.drop i):∃ j,i<=j/\j<xs.size/\xs[j]?=some y:=by
 obtain⟨j,hj,e⟩:=List.getElem_of_mem h
 rw[List.length_drop]at hj
 refine⟨i+j,by lia,?_,?_⟩
 ·have:xs.toList.length=xs.size:=by simp
  omega
 ·rw[List.getElem_drop]at e
  have:xs.toList[i+j]?=some y:=by rw[<- e];exact List.getElem?_eq_getElem (by omega)
  rw[<- this];simp
theorem mem_take{xs:Array Keyed}{i:Nat}{y:Keyed}(h:y∈xs.toList.take i):∃ j,j<i/\j<xs.size/\xs[j]?=some y:=by
 obtain⟨j,hj,e⟩:=List.getElem_of_mem h
 rw[List.length_take]at hj
 have hl:xs.toList.length=xs.size:=by simp
 refine⟨j,by lia,by omega,?_⟩
 rw[List.getElem_take]at e
 have:xs.toList[j]?=some y:=by rw[<- e];exact List.getElem?_eq_getElem (by lia)
 rw[<- this];simp
theorem get_of_lt{xs:Array Keyed}{i:Nat}(h:i<xs.size):∃ p,xs[i]?=some p:=⟨xs[i],getElem?_pos _ i h⟩
structure Sm(st st':SortSt):Prop where
 k:kindOf st'=kindOf st
 a:arrOf st'=arrOf st
 p:pendingOf st'=pendingOf st
 f:failedOf st'=failedOf st
theorem Sm.refl(st:SortSt):Sm st st:=⟨rfl,rfl,rfl,rfl⟩
theorem Sm.min{st st':SortSt}(h:Sm st st')(g:Nat):Sm st (SortSt.mk' (kindOf st') (arrOf st') (pendingOf st') g (failedOf st')):=⟨h.k,h.a,h.p,h.f⟩
section
variable{prog:Program}{w:World}{A:Around}{E:Value->Shared->Prop}{s:Shared}{κ:KeyKind}{kd:SortKind}{st:SortSt}
theorem lt_ok{x y:Keyed}{Q:Option Bool->SortSt->Prop}(hO:LtOk κ kd prog w A s)(hk:kindOf st=kd)(hx:∃ a,κ.keyOf x.1=some a)(hy:∃ a,κ.keyOf y.1=some a)(h:Q (some (κ.blt (kk κ x) (kk κ y))) st) :
  wpS (model prog w) A E s (lt' x y) Q st:=by
 obtain⟨a,ha⟩:=hx
 obtain⟨c,hc⟩:=hy
 refine hO E x y a c Q st hk ha hc ?_
 have e1:kk κ x=a:=by unfold kk;rw[ha];rfl
 have e2:kk κ y=c:=by unfold kk;rw[hc];rfl
 rwa [e1,e2]at h
noncomputable def Keyd(κ:KeyKind)(xs:Array Keyed):Prop:=∀ (i:Nat) (p:Keyed),xs[i]?=some p->∃ a,κ.keyOf p.1=some a
theorem bey_left{key:Keyed}{arr:Array Keyed}{base n:Nat}(hO:LtOk κ kd prog w A s)(hk:∃ a,κ.keyOf key.1=some a)(ha:Keyd κ arr)(hn:base+n<=arr.size) :
  BeyOk prog w A s kd true key arr base n fun i=>κ.blt (KK κ arr (base+i)) (kk κ key):=by
 intro i E Q st hi hs h
 obtain⟨p,hp⟩:=get_of_lt (xs:=arr) (i:=base+i) (by lia)
 unfold bey
 refine wpS_bind (elem_ok hp ?_)
 rw[if_pos rfl]
 refine lt_ok hO hs (ha _ _ hp) hk ?_
 dsimp only at h
 rwa [KK_of hp]at h
theorem bey_right{key:Keyed}{arr:Array Keyed}{base n:Nat}(hO:LtOk κ kd prog w A s)(hk:∃ a,κ.keyOf key.1=some a)(ha:Keyd κ arr)(hn:base+n<=arr.size) :
  BeyOk prog w A s kd false key arr base n fun i=>!(κ.blt (kk κ key) (KK κ arr (base+i))):=by
 intro i E Q st hi hs h
 obtain⟨p,hp⟩:=get_of_lt (xs:=arr) (i:=base+i) (by lia)
 unfold bey
 refine wpS_bind (elem_ok hp ?_)
 rw[if_neg Bool.false_ne_true]
 refine wpS_bind (lt_ok hO hs hk (ha _ _ hp) (wpS_pure ?_))
 dsimp only at h
 rwa [KK_of hp]at h
end
open PySem PyProof.Rows
theorem ext_drop(xs:Array Keyed)(i:Nat):(xs.extract i xs.size).toList=xs.toList.drop i:=by
 simp[Array.toList_extract,List.extract_eq_drop_take]
 rw[List.take_of_length_le]
 simp
theorem ext_blk(xs:Array Keyed)(i k:Nat):(xs.extract i (i+k)).toList=(xs.toList.drop i).take k:=by
 simp[Array.toList_extract,List.extract_eq_drop_take]
theorem ext_take(xs:Array Keyed)(k:Nat):(xs.extract 0 k).toList=xs.toList.take k:=by
 simp[Array.toList_extract,List.extract_eq_drop_take]
theorem blk_drop(xs:Array Keyed)(i k:Nat):xs.toList.drop i=(xs.toList.drop i).take k++xs.toList.drop (i+k):=by
 rw[<- List.drop_drop,List.take_append_drop]
theorem drop_all(xs:Array Keyed):xs.toList.drop xs.size=[]:=by simp
section
variable{κ:KeyKind}{a b out:Array Keyed}{T:List Keyed}{ia ib k:Nat}{p:Keyed}
theorem fin_b(h:MI κ T out.toList (a.toList.drop ia) (b.toList.drop ib))(e:ib=b.size):Good κ T (out++a.extract ia a.size++b.extract ib b.size):=by
 subst e
 rw[drop_all]at h
 exact h.endB (by rw[Array.toList_append,Array.toList_append,ext_drop,ext_drop,drop_all,List.append_nil])
theorem fin_a(h:MI κ T out.toList (a.toList.drop ia) (b.toList.drop ib))(e:ia=a.size):Good κ T (out++a.extract ia a.size++b.extract ib b.size):=by
 subst e
 rw[drop_all]at h
 exact h.endA (by rw[Array.toList_append,Array.toList_append,ext_drop,ext_drop,drop_all,List.append_nil])
theorem fin_l(h:MI κ T out.toList (a.toList.drop ia) (b.toList.drop ib))(e:ia+1=a.size)(hl:∀ j,j<b.size->κ.kle (KK κ b j) (KK κ a (a.size-1))):Good κ T (out++b.extract ib b.size++a.extract ia a.size):=by
 obtain⟨l,hl'⟩:=get_of_lt (xs:=a) (i:=ia) (by lia)
 have ed:a.toList.drop ia=[l]:=by rw[drop_at hl',e,drop_all];rfl
 rw[ed]at h
 refine h.last (fun y hy=>?_) (by rw[Array.toList_append,Array.toList_append,ext_drop,ext_drop,ed])
 obtain⟨j,_,j2,j3⟩:=mem_drop hy
 have q:=hl j j2
 rw[show a.size-1=ia by lia,KK_of j3,KK_of hl']at q
 exact q
theorem mv_b(h:MI κ T out.toList (a.toList.drop ia) (b.toList.drop ib))(hp:b[ib]?=some p)(hx:∀ i,ia<=i->i<a.size->κ.kle (KK κ b ib) (KK κ a i)):MI κ T (out.push p).toList (a.toList.drop ia) (b.toList.drop (ib+1)):=by
 rw[drop_at hp]at h
 rw[Array.toList_push]
 refine h.b fun x hx' y hy=>?_
 rw[List.mem_singleton.mp hx']
 obtain⟨j,j1,j2,j3⟩:=mem_drop hy
 have q:=hx j j1 j2
 rw[KK_of hp,KK_of j3]at q
 exact q
theorem mv_a(h:MI κ T out.toList (a.toList.drop ia) (b.toList.drop ib))(hp:a[ia]?=some p)(hx:∀ j,ib<=j->j<b.size->κ.kle (KK κ a ia) (KK κ b j)):MI κ T (out.push p).toList (a.toList.drop (ia+1)) (b.toList.drop ib):=by
 rw[drop_at hp]at h
 rw[Array.toList_push]
 refine h.a fun x hx' y hy=>?_
 rw[List.mem_singleton.mp hx']
 obtain⟨j,j1,j2,j3⟩:=mem_drop hy
 have q:=hx j j1 j2
 rw[KK_of hp,KK_of j3]at q
 exact q
theorem mem_blk{xs:Array Keyed}{i k:Nat}{y:Keyed}(h:y∈(xs.toList.drop i).take k):∃ j,i<=j/\j<i+k/\j<xs.size/\xs[j]?=some y:=by
 obtain⟨j,hj,e⟩:=List.getElem_of_mem h
 rw[List.length_take,List.length_drop]at hj
 have hl:xs.toList.length=xs.size:=by simp
 refine⟨i+j,by lia,by lia,by omega,?_⟩
 rw[List.getElem_take,List.getElem_drop]at e
 have:xs.toList[i+j]?=some y:=by rw[<- e];exact List.getElem?_eq_getElem (by omega)
 rw[<- this];simp
theorem blk_a(h:MI κ T out.toList (a.toList.drop ia) (b.toList.drop ib))(hx:∀ i,ia<=i->i<ia+k->i<a.size->∀ j,ib<=j->j<b.size->κ.kle (KK κ a i) (KK κ b j)) :
  MI κ T (out++a.extract ia (ia+k)).toList (a.toList.drop (ia+k)) (b.toList.drop ib):=by
 rw[blk_drop a ia k]at h
 rw[Array.toList_append,ext_blk]
 refine h.a fun x hx' y hy=>?_
 obtain⟨i,i1,i2,i3,i4⟩:=mem_blk hx'
 obtain⟨j,j1,j2,j3⟩:=mem_drop hy
 have q:=hx i i1 i2 i3 j j1 j2
 rw[KK_of i4,KK_of j3]at q
 exact q
theorem blk_b(h:MI κ T out.toList (a.toList.drop ia) (b.toList.drop ib))(hx:∀ j,ib<=j->j<ib+k->j<b.size->∀ i,ia<=i->i<a.size->κ.kle (KK κ b j) (KK κ a i)) :
  MI κ T (out++b.extract ib (ib+k)).toList (a.toList.drop ia) (b.toList.drop (ib+k)):=by
 rw[blk_drop b ib k]at h
 rw[Array.toList_append,ext_blk]
 refine h.b fun x hx' y hy=>?_
 obtain⟨i,i1,i2,i3,i4⟩:=mem_blk hx'
 obtain⟨j,j1,j2,j3⟩:=mem_drop hy
 have q:=hx i i1 i2 i3 j j1 j2
 rw[KK_of i4,KK_of j3]at q
 exact q
end
theorem wpS_if{M:Model}{A:Around}{E:Value->Shared->Prop}{s:Shared}{σ α:Type}{c:Prop}[Decidable c]{x y:StateT σ Sem α}{Q:α->σ->Prop}{st:σ}(h1:c->wpS M A E s x Q st)(h2:¬ c->wpS M A E s y Q st):wpS M A E s (if c then x else y) Q st:=by
 by_cases h:c
 ·rw[if_pos h];exact h1 h
 ·rw[if_neg h];exact h2 h
theorem pw_of{κ:KeyKind}{xs:Array Keyed}(h:∀ i j,i<=j->j<xs.size->κ.kle (KK κ xs i) (KK κ xs j)):xs.toList.Pairwise (kL κ):=by
 rw[List.pairwise_iff_getElem]
 intro i j hi hj hij
 have hl:xs.toList.length=xs.size:=by simp
 have q:=h i j (by lia) (by omega)
 rw[KK_of (p:=xs.toList[i]) (by rw[<- List.getElem?_eq_getElem hi];simp),KK_of (p:=xs.toList[j]) (by rw[<- List.getElem?_eq_getElem hj];simp)]at q
 exact q
section
variable{prog:Program}{w:World}{A:Around}{E:Value->Shared->Prop}{s:Shared}{κ:KeyKind}{kd:SortKind}{st:SortSt}
variable{a b:Array Keyed}
@[elab_as_elim] theorem el4{α0 α1 α2 α3 ε:Type}{P:α0->α1->α2->α3->Prop}{motive:Option ε×α0×α1×α2×α3->Prop}(c:Option ε×α0×α1×α2×α3)(h:∃ x0 x1 x2 x3,c=(none,x0,x1,x2,x3)/\P x0 x1 x2 x3)(k:∀ x0 x1 x2 x3,P x0 x1 x2 x3->motive (none,x0,x1,x2,x3)):motive c:=by
 obtain⟨x0,x1,x2,x3,rfl,p⟩:=h
 exact k x0 x1 x2 x3 p
@[elab_as_elim] theorem el5{α0 α1 α2 α3 α4 ε:Type}{P:α0->α1->α2->α3->α4->Prop}{motive:Option ε×α0×α1×α2×α3×α4->Prop}(c:Option ε×α0×α1×α2×α3×α4)(h:∃ x0 x1 x2 x3 x4,c=(none,x0,x1,x2,x3,x4)/\P x0 x1 x2 x3 x4)(k:∀ x0 x1 x2 x3 x4,P x0 x1 x2 x3 x4->motive (none,x0,x1,x2,x3,x4)):motive c:=by
 obtain⟨x0,x1,x2,x3,x4,rfl,p⟩:=h
 exact k x0 x1 x2 x3 x4 p
@[elab_as_elim] theorem eo5{α0 α1 α2 α3 α4 ε:Type}{P:α0->α1->α2->α3->α4->Prop}{G:ε->Prop}{motive:Option ε×α0×α1×α2×α3×α4->Prop}(c:Option ε×α0×α1×α2×α3×α4)(h:(∃ R r,c=(some R,r)/\G R)\/∃ x0 x1 x2 x3 x4,c=(none,x0,x1,x2,x3,x4)/\P x0 x1 x2 x3 x4)(k1:∀ R r,G R->motive (some R,r))(k:∀ x0 x1 x2 x3 x4,P x0 x1 x2 x3 x4->motive (none,x0,x1,x2,x3,x4)):motive c:=by
 obtain⟨R,r,rfl,g⟩ | h:=h
 ·exact k1 R r g
 ·exact el5 c h k
@[elab_as_elim] theorem el6{α0 α1 α2 α3 α4 α5 ε:Type}{P:α0->α1->α2->α3->α4->α5->Prop}{motive:Option ε×α0×α1×α2×α3×α4×α5->Prop}(c:Option ε×α0×α1×α2×α3×α4×α5)(h:∃ x0 x1 x2 x3 x4 x5,c=(none,x0,x1,x2,x3,x4,x5)/\P x0 x1 x2 x3 x4 x5)(k:∀ x0 x1 x2 x3 x4 x5,P x0 x1 x2 x3 x4 x5->motive (none,x0,x1,x2,x3,x4,x5)):motive c:=by
 obtain⟨x0,x1,x2,x3,x4,x5,rfl,p⟩:=h
 exact k x0 x1 x2 x3 x4 x5 p
@[elab_as_elim] theorem eo6{α0 α1 α2 α3 α4 α5 ε:Type}{P:α0->α1->α2->α3->α4->α5->Prop}{G:ε->Prop}{motive:Option ε×α0×α1×α2×α3×α4×α5->Prop}(c:Option ε×α0×α1×α2×α3×α4×α5)(h:(∃ R r,c=(some R,r)/\G R)\/∃ x0 x1 x2 x3 x4 x5,c=(none,x0,x1,x2,x3,x4,x5)/\P x0 x1 x2 x3 x4 x5)(k1:∀ R r,G R->motive (some R,r))(k:∀ x0 x1 x2 x3 x4 x5,P x0 x1 x2 x3 x4 x5->motive (none,x0,x1,x2,x3,x4,x5)):motive c:=by
 obtain⟨R,r,rfl,g⟩ | h:=h
 ·exact k1 R r g
 ·exact el6 c h k
structure Shd(P:Prop):Prop where
 out:P
theorem wpS_ifS{c:Prop}[Decidable c]{σ α:Type}{M:Model}{x y:StateT σ Sem α}{Q:α->σ->Prop}{t:σ}{P:Prop}(g:P)(h1:c->Shd P->wpS M A E s x Q t)(h2:¬ c->Shd P->wpS M A E s y Q t):wpS M A E s (if c then x else y) Q t:=by
 split
 ·exact h1 (by assumption) ⟨g⟩
 ·exact h2 (by assumption) ⟨g⟩
theorem mergeLo_ok{Q:Array Keyed->SortSt->Prop}(hO:LtOk κ kd prog w A s)(hk:kindOf st=kd)(ka:Keyd κ a)(kb:Keyd κ b)(hA:∀ i j,i<=j->j<a.size->κ.kle (KK κ a i) (KK κ a j))(hB:∀ i j,i<=j->j<b.size->κ.kle (KK κ b i) (KK κ b j))
  (ha:0<a.size) (hb:0<b.size) (h1:κ.kle (KK κ b 0) (KK κ a 0)) (h2:κ.kle (KK κ b (b.size-1)) (KK κ a (a.size-1)))
  (h:∀ R st',Sm st st'->Good κ (a.toList++b.toList) R->Q R st'):wpS (model prog w) A E s (mergeLoP a b) Q st:=by
 obtain⟨b0,e0⟩:=get_of_lt hb
 generalize hT:a.toList++b.toList=T at h
 have hl:∀ j,j<b.size->κ.kle (KK κ b j) (KK κ a (a.size-1)):=fun j hj=>KeyOrd.kle_trans (hB j (b.size-1) (by omega) (by omega)) h2
 have m0:MI κ T (#[]:Array Keyed).toList (a.toList.drop 0) (b.toList.drop 0):=⟨by rw[<- hT];simp,.nil,fun x hx=>by simp at hx,by simpa using pw_of hA,by simpa using pw_of hB⟩
 have m1:MI κ T (#[b0]:Array Keyed).toList (a.toList.drop 0) (b.toList.drop 1):=mv_b m0 e0 fun i _ hi=>KeyOrd.kle_trans h1 (hA 0 i (by omega) hi)
 refine wpS_bind (wpS_lift (wpAny_rule ⟨rfl,wpS_bind (elem_ok e0 ?_)⟩))
 dsimp only
 by_cases y1:1=b.size
 ·rw[if_pos (by simpa using y1)]
  exact wpS_pure (h _ _ (Sm.refl _) (fin_b m1 y1))
 rw[if_neg (by simpa using y1)]
 by_cases y2:0+1=a.size
 ·rw[if_pos (by simpa using y2)]
  exact wpS_pure (h _ _ (Sm.refl _) (fin_l m1 y2 hl))
 rw[if_neg (by simpa using y2)]
 refine wpS_bind (wpS_get ?_)
 refine wpS_bind (wpS_mono (wpS_forRange (I:=fun x c st'=>Sm st st'/\∃ out ia ib mg,c=(none,out,ia,ib,mg)/\MI κ T out.toList (a.toList.drop ia) (b.toList.drop ib)/\ia+1<a.size/\ib<b.size/\x<ia+ib)
  (Q:=fun c st'=>Sm st st'/\∃ R r,c=(some R,r)/\Good κ T R) ?ostep ?ofin ⟨Sm.refl _,_,_,_,_,rfl,m1,by lia,by lia,by lia⟩) ?opost)
 case opost =>
  rintro c st' ⟨sm,R,r,rfl,g⟩
  exact wpS_pure (h R st' sm g)
 case ofin =>
  rintro c st' ⟨sm,out,ia,ib,mg,rfl,m,q1,q2,q3⟩
  lia
 case ostep =>
  intro x c st1 _ hx hI
  have sm1:=hI.1
  refine el4 c hI.2 fun out ia ib mg hP=>?_
  have m:=hP.1
  have q1:=hP.2.1
  have q2:=hP.2.2.1
  have q3:=hP.2.2.2
  clear hI hP
  dsimp only
  refine wpS_bind (wpS_mono (wpS_forRange (I:=fun y c st'=>Sm st st'/\∃ out ia ib ac bc,c=(none,out,ia,ib,ac,bc)/\MI κ T out.toList (a.toList.drop ia) (b.toList.drop ib)/\ia+1<a.size/\ib<b.size/\x+min y 1<ia+ib)
   (Q:=fun c st'=>Sm st st'/\((∃ R r,c=(some R,r)/\Good κ T R)\/∃ out ia ib ac bc,c=(none,out,ia,ib,ac,bc)/\MI κ T out.toList (a.toList.drop ia) (b.toList.drop ib)/\ia+1<a.size/\ib<b.size/\x+1<ia+ib))
   ?istep ?ifin ⟨sm1,_,_,_,_,_,rfl,m,q1,q2,by lia⟩) ?ipost)
  case ifin =>
   rintro c st' ⟨sm,out,ia,ib,ac,bc,rfl,m,q1,q2,q3⟩
   exact⟨sm,.inr ⟨out,ia,ib,ac,bc,rfl,m,q1,q2,by lia⟩⟩
  case istep =>
   intro y c st2 _ hy hI
   have sm:=hI.1
   refine el5 c hI.2 fun out ia ib ac bc hP=>?_
   have m:=hP.1
   have q1:=hP.2.1
   have q2:=hP.2.2.1
   have q3:=hP.2.2.2
   clear hI hP
   dsimp only
   obtain⟨pb,eb⟩:=get_of_lt q2
   obtain⟨pa,ea⟩:=get_of_lt (xs:=a) (i:=ia) (by lia)
   refine wpS_bind (elem_ok eb (wpS_bind (elem_ok ea (wpS_bind (lt_ok hO (sm.k.trans hk) (kb _ _ eb) (ka _ _ ea) ?_)))))
   cases t:κ.blt (kk κ pb) (kk κ pa)with
   |true =>
    dsimp only
    rw[if_pos rfl]
    have tk:κ.kle (KK κ b ib) (KK κ a ia):=by rw[KK_of eb,KK_of ea];exact KeyOrd.kle_of_klt t
    have m':=mv_b m eb fun i i1 i2=>KeyOrd.kle_trans tk (hA ia i i1 i2)
    refine wpS_bind (elem_ok eb ?_)
    by_cases z:ib+1=b.size
    ·rw[if_pos (by simpa using z)]
     exact wpS_pure ⟨sm,.inl ⟨_,_,rfl,fin_b m' z⟩⟩
    ·rw[if_neg (by simpa using z)]
     split
     ·exact wpS_pure ⟨sm,.inr ⟨_,_,_,_,_,rfl,m',q1,by lia,by lia⟩⟩
     ·exact wpS_pure ⟨sm,_,_,_,_,_,rfl,m',q1,by lia,by lia⟩
   |false =>
    dsimp only
    rw[if_neg Bool.false_ne_true]
    have tk:κ.kle (KK κ a ia) (KK κ b ib):=by rw[KK_of eb,KK_of ea];exact t
    have m':=mv_a m ea fun i i1 i2=>KeyOrd.kle_trans tk (hB ib i i1 i2)
    refine wpS_bind (elem_ok ea ?_)
    by_cases z:ia+1+1=a.size
    ·rw[if_pos (by simpa using z)]
     exact wpS_pure ⟨sm,.inl ⟨_,_,rfl,fin_l m' z hl⟩⟩
    ·rw[if_neg (by simpa using z)]
     split
     ·exact wpS_pure ⟨sm,.inr ⟨_,_,_,_,_,rfl,m',by lia,q2,by lia⟩⟩
     ·exact wpS_pure ⟨sm,_,_,_,_,_,rfl,m',by lia,q2,by lia⟩
  case ipost =>
   intro c st2 hI
   have sm2:=hI.1
   refine eo5 c hI.2 (fun R r g=>?_) fun out ia ib ac bc hP=>?_
   ·exact wpS_pure ⟨sm2,R,_,rfl,g⟩
   have m:=hP.1
   have q1:=hP.2.1
   have q2:=hP.2.2.1
   have q3:=hP.2.2.2
   clear hI hP
   dsimp only
   refine wpS_bind (wpS_lift (wpAny_rule ⟨rfl,?_⟩))
   refine wpS_bind (wpS_mono (wpS_forRange (I:=fun y c st'=>Sm st st'/\∃ out ia ib mg ac bc,c=(none,out,ia,ib,mg,ac,bc)/\MI κ T out.toList (a.toList.drop ia) (b.toList.drop ib)/\ia+1<a.size/\ib<b.size/\x+1<ia+ib)
    (Q:=fun c st'=>Sm st st'/\((∃ R r,c=(some R,r)/\Good κ T R)\/∃ out ia ib mg ac bc,c=(none,out,ia,ib,mg,ac,bc)/\MI κ T out.toList (a.toList.drop ia) (b.toList.drop ib)/\ia+1<a.size/\ib<b.size/\x+1<ia+ib))
    ?gstep ?gfin ⟨sm2,_,_,_,_,_,_,rfl,m,q1,q2,q3⟩) ?gpost)
   case gfin =>
    exact fun c st' hI=>⟨hI.1,.inr hI.2⟩
   case gpost =>
    intro c st3 hI
    have sm3:=hI.1
    refine eo6 c hI.2 (fun R r g=>?_) fun out ia ib mg ac bc hP=>?_
    ·exact wpS_pure ⟨sm3,R,_,rfl,g⟩
    dsimp only
    exact wpS_bind (wpS_modify (wpS_pure ⟨sm3.min _,_,_,_,_,rfl,hP⟩))
   case gstep =>
    intro y c st3 _ hy hI
    have sm:=hI.1
    refine el6 c hI.2 fun out ia ib mg ac bc hP=>?_
    have m:=hP.1
    have q1:=hP.2.1
    have q2:=hP.2.2.1
    have q3:=hP.2.2.2
    clear hI hP
    dsimp only
    obtain⟨pb,eb⟩:=get_of_lt q2
    refine' wpS_ifS (P:=_) ?A0 (fun _ H=>?A1) fun _ H=>?A2
    case A1=>generalize mg-1=z;revert z;exact H.out
    case A2=>exact H.out _
    intro mg
    refine wpS_bind (wpS_modify ?_)
    refine wpS_bind (elem_ok eb (wpS_bind (gallop_ok (bey_right hO (kb _ _ eb) ka (base:=ia) (n:=a.size-ia) (by omega)) ((sm.min _).k.trans hk) (fun i j hij hj t=>?_) (by omega) fun k k1 k2 k3=>?_)))
    ·have t1:κ.kle (KK κ a (ia+j)) (kk κ pb):=by simpa[KeyOrd.kle]using t
     have t2:=KeyOrd.kle_trans (hA (ia+i) (ia+j) (by lia) (by omega)) t1
     simpa[KeyOrd.kle]using t2
    dsimp only
    have low:∀ i,ia<=i->i<ia+k->κ.kle (KK κ a i) (KK κ b ib):=fun i i1 i2=>by
     have q:=k2 (i-ia) (by omega)
     rw[show ia+(i-ia)=i by omega]at q
     rw[KK_of eb]
     simpa[KeyOrd.kle]using q
    have hi0:∀ i,ia+k<=i->i<a.size->κ.kle (KK κ b ib) (KK κ a i):=fun i i1 i2=>by
     have q:=k3 (i-ia) (by omega) (by omega)
     rw[show ia+(i-ia)=i by lia]at q
     rw[KK_of eb]
     exact KeyOrd.kle_of_klt (show κ.blt _ _=true by simpa using q)
    refine' wpS_ifS (P:=_) ?B0 (fun kz H=>?B1) fun kz H=>?B2
    case B1 =>
     have mk:=blk_a (k:=k) m fun i i1 i2 _ j j1 j2=>KeyOrd.kle_trans (low i i1 i2) (hB ib j j1 j2)
     by_cases w1:ia+k+1=a.size
     ·rw[if_pos (by simpa using w1)]
      exact wpS_pure ⟨sm.min _,.inl ⟨_,_,rfl,fin_l mk w1 hl⟩⟩
     rw[if_neg (by simpa using w1)]
     by_cases w2:ia+k=a.size
     ·rw[if_pos (by simpa using w2)]
      exact wpS_pure ⟨sm.min _,.inl ⟨_,_,rfl,fin_a mk w2⟩⟩
     rw[if_neg (by simpa using w2)]
     have pr:x+1<ia+k+ib:=by lia
     have p1:ia+k+1<a.size:=by lia
     have hi1:=hi0
     revert pr p1 hi1 mk
     generalize out++a.extract ia (ia+k)=out1
     generalize ia+k=ia1
     revert out1 ia1
     exact H.out
    case B2 =>
     have k0:k=0:=by lia
     exact H.out _ _ m q3 q1 (fun i i1 i2=>hi0 i (by lia) i2)
    clear low hi0 k1 k2 k3 m q3 q1
    intro out1 ia1 m1 pr p1 hi1
    refine wpS_bind (elem_ok eb ?_)
    have m2:=mv_b m1 eb hi1
    by_cases z:ib+1=b.size
    ·rw[if_pos (by simpa using z)]
     exact wpS_pure ⟨sm.min _,.inl ⟨_,_,rfl,fin_b m2 z⟩⟩
    rw[if_neg (by simpa using z)]
    obtain⟨pa,ea⟩:=get_of_lt (xs:=a) (i:=ia1) (by lia)
    refine wpS_bind (elem_ok ea (wpS_bind (gallop_ok (bey_left hO (ka _ _ ea) kb (base:=ib+1) (n:=b.size-(ib+1)) (by omega)) ((sm.min _).k.trans hk) (fun i j hij hj t=>?_) (by omega) fun k2 l1 l2 l3=>?_)))
    ·exact KeyOrd.klt_of_kle_of_klt (hB (ib+1+i) (ib+1+j) (by lia) (by omega)) t
    dsimp only
    have low2:∀ j,ib+1<=j->j<ib+1+k2->κ.kle (KK κ b j) (KK κ a ia1):=fun j j1 j2=>by
     have q:=l2 (j-(ib+1)) (by omega)
     rw[show ib+1+(j-(ib+1))=j by omega]at q
     rw[KK_of ea]
     exact KeyOrd.kle_of_klt q
    have high2:∀ j,ib+1+k2<=j->j<b.size->κ.kle (KK κ a ia1) (KK κ b j):=fun j j1 j2=>by
     have q:=l3 (j-(ib+1)) (by omega) (by omega)
     rw[show ib+1+(j-(ib+1))=j by omega]at q
     rw[KK_of ea]
     exact q
    refine' wpS_ifS (P:=_) ?C0 (fun kz2 H=>?C1) fun kz2 H=>?C2
    case C1 =>
     have m3:=blk_b (k:=k2) m2 fun j j1 j2 _ i i1 i2=>KeyOrd.kle_trans (low2 j j1 j2) (hA ia1 i i1 i2)
     by_cases z2:ib+1+k2=b.size
     ·rw[if_pos (by simpa using z2)]
      exact wpS_pure ⟨sm.min _,.inl ⟨_,_,rfl,fin_b m3 z2⟩⟩
     rw[if_neg (by simpa using z2)]
     have e1:ib+1+k2<b.size:=by omega
     have e2:x+1<ia1+1+(ib+1+k2):=by lia
     have hi2:=high2
     revert e1 e2 hi2 m3
     generalize out1.push pb++b.extract (ib+1) (ib+1+k2)=out2
     generalize ib+1+k2=ib2
     generalize k2=bc
     revert out2 ib2 bc
     exact H.out
    case C2 =>
     have k0:k2=0:=by lia
     exact H.out _ _ _ m2 (by lia) (by lia) (fun j j1 j2=>high2 j (by lia) j2)
    clear low2 high2 l1 l2 l3 m2 m1
    intro out2 ib2 bc m3 e1 e2 high2
    refine wpS_bind (elem_ok ea ?_)
    have m4:=mv_a m3 ea high2
    by_cases z3:ia1+1+1=a.size
    ·rw[if_pos (by simpa using z3)]
     exact wpS_pure ⟨sm.min _,.inl ⟨_,_,rfl,fin_l m4 z3 hl⟩⟩
    rw[if_neg (by simpa using z3)]
    have e3:ia1+1+1<a.size:=by lia
    refine wpS_if (fun _=>?_) fun _=>?_
    ·exact wpS_pure ⟨sm.min _,.inr ⟨_,_,_,_,_,_,rfl,m4,e3,e1,e2⟩⟩
    ·exact wpS_pure ⟨sm.min _,_,_,_,_,_,_,rfl,m4,e3,e1,e2⟩
end
open PySem PyProof.Rows
section
variable{κ:KeyKind}{a b out:Array Keyed}{T:List Keyed}{na nb k:Nat}{p:Keyed}
theorem rev_out(xs ys out:Array Keyed):(xs++ys++out.reverse).toList=xs.toList++ys.toList++out.toList.reverse:=by simp
theorem hf_a(h:MH κ T out.toList.reverse (a.toList.take na) (b.toList.take nb))(e:na=0):Good κ T (a.extract 0 na++b.extract 0 nb++out.reverse):=by
 subst e
 rw[List.take_zero]at h
 exact h.endA (by rw[rev_out,ext_take,ext_take,List.take_zero,List.nil_append])
theorem hf_b(h:MH κ T out.toList.reverse (a.toList.take na) (b.toList.take nb))(e:nb=0):Good κ T (a.extract 0 na++b.extract 0 nb++out.reverse):=by
 subst e
 rw[List.take_zero]at h
 exact h.endB (by rw[rev_out,ext_take,ext_take,List.take_zero,List.append_nil])
theorem hf_f(h:MH κ T out.toList.reverse (a.toList.take na) (b.toList.take nb))(e:nb=1)(hb:0<b.size)(hl:∀ i,i<a.size->κ.kle (KK κ b 0) (KK κ a i)):Good κ T (b.extract 0 nb++a.extract 0 na++out.reverse):=by
 subst e
 obtain⟨l,hl'⟩:=get_of_lt hb
 have ed:b.toList.take 1=[l]:=by rw[take_at hl'];rfl
 rw[ed]at h
 refine h.first (fun y hy=>?_) (by rw[rev_out,ext_take,ext_take,ed])
 obtain⟨j,_,j2,j3⟩:=mem_take hy
 have q:=hl j j2
 rw[KK_of j3,KK_of hl']at q
 exact q
theorem hm_a(h:MH κ T out.toList.reverse (a.toList.take (na+1)) (b.toList.take nb))(hp:a[na]?=some p)(hx:∀ j,j<nb->j<b.size->κ.kle (KK κ b j) (KK κ a na)):MH κ T (out.push p).toList.reverse (a.toList.take na) (b.toList.take nb):=by
 rw[take_at hp]at h
 have e:(out.push p).toList.reverse=[p]++out.toList.reverse:=by simp
 rw[e]
 refine h.a fun x hx' y hy=>?_
 rw[List.mem_singleton.mp hx']
 obtain⟨j,j1,j2,j3⟩:=mem_take hy
 have q:=hx j j1 j2
 rw[KK_of hp,KK_of j3]at q
 exact q
theorem hm_b(h:MH κ T out.toList.reverse (a.toList.take na) (b.toList.take (nb+1)))(hp:b[nb]?=some p)(hx:∀ i,i<na->i<a.size->κ.kle (KK κ a i) (KK κ b nb)):MH κ T (out.push p).toList.reverse (a.toList.take na) (b.toList.take nb):=by
 rw[take_at hp]at h
 have e:(out.push p).toList.reverse=[p]++out.toList.reverse:=by simp
 rw[e]
 refine h.b fun x hx' y hy=>?_
 rw[List.mem_singleton.mp hx']
 obtain⟨j,j1,j2,j3⟩:=mem_take hy
 have q:=hx j j1 j2
 rw[KK_of hp,KK_of j3]at q
 exact q
theorem take_blk(xs:Array Keyed){i n:Nat}(h:i<=n):xs.toList.take n=xs.toList.take i++(xs.toList.drop i).take (n-i):=by
 rw[<- List.take_add,Nat.add_sub_cancel' h]
theorem out_blk(out xs:Array Keyed){i n:Nat}(h:i<=n):(out++(xs.extract i n).reverse).toList.reverse=(xs.toList.drop i).take (n-i)++out.toList.reverse:=by
 have e:=ext_blk xs i (n-i)
 rw[Nat.add_sub_cancel' h]at e
 rw[<- e]
 simp
theorem hb_a{i:Nat}(hi:i<=na)(h:MH κ T out.toList.reverse (a.toList.take na) (b.toList.take nb))(hx:∀ m,i<=m->m<na->m<a.size->∀ j,j<nb->j<b.size->κ.kle (KK κ b j) (KK κ a m)) :
  MH κ T (out++(a.extract i na).reverse).toList.reverse (a.toList.take i) (b.toList.take nb):=by
 rw[take_blk a hi]at h
 rw[out_blk _ _ hi]
 refine h.a fun x hx' y hy=>?_
 obtain⟨m,i1,i2,i3,i4⟩:=mem_blk hx'
 obtain⟨j,j1,j2,j3⟩:=mem_take hy
 have q:=hx m i1 (by lia) i3 j j1 j2
 rw[KK_of i4,KK_of j3]at q
 exact q
theorem hb_b{i:Nat}(hi:i<=nb)(h:MH κ T out.toList.reverse (a.toList.take na) (b.toList.take nb))(hx:∀ m,i<=m->m<nb->m<b.size->∀ j,j<na->j<a.size->κ.kle (KK κ a j) (KK κ b m)) :
  MH κ T (out++(b.extract i nb).reverse).toList.reverse (a.toList.take na) (b.toList.take i):=by
 rw[take_blk b hi]at h
 rw[out_blk _ _ hi]
 refine h.b fun x hx' y hy=>?_
 obtain⟨m,i1,i2,i3,i4⟩:=mem_blk hx'
 obtain⟨j,j1,j2,j3⟩:=mem_take hy
 have q:=hx m i1 (by lia) i3 j j1 j2
 rw[KK_of i4,KK_of j3]at q
 exact q
end
section
variable{prog:Program}{w:World}{A:Around}{E:Value->Shared->Prop}{s:Shared}{κ:KeyKind}{kd:SortKind}{st:SortSt}
variable{a b:Array Keyed}
theorem mergeHi_ok{Q:Array Keyed->SortSt->Prop}(hO:LtOk κ kd prog w A s)(hk:kindOf st=kd)(ka:Keyd κ a)(kb:Keyd κ b)(hA:∀ i j,i<=j->j<a.size->κ.kle (KK κ a i) (KK κ a j))(hB:∀ i j,i<=j->j<b.size->κ.kle (KK κ b i) (KK κ b j))
  (ha:0<a.size) (hb:0<b.size) (h1:κ.kle (KK κ b 0) (KK κ a 0)) (h2:κ.kle (KK κ b (b.size-1)) (KK κ a (a.size-1)))
  (h:∀ R st',Sm st st'->Good κ (a.toList++b.toList) R->Q R st'):wpS (model prog w) A E s (mergeHiP a b) Q st:=by
 obtain⟨al,el⟩:=get_of_lt (xs:=a) (i:=a.size-1) (by omega)
 generalize hT:a.toList++b.toList=T at h
 have hf:∀ i,i<a.size->κ.kle (KK κ b 0) (KK κ a i):=fun i hi=>KeyOrd.kle_trans h1 (hA 0 i (by lia) hi)
 have m0:MH κ T (#[]:Array Keyed).toList.reverse (a.toList.take (a.size-1+1)) (b.toList.take b.size):=by
  rw[show a.size-1+1=a.size by lia]
  rw[List.take_of_length_le (l:=a.toList) (by simp),List.take_of_length_le (l:=b.toList) (by simp)]
  exact⟨by rw[<- hT];simp,by simp,fun x hx=>by simp at hx,pw_of hA,pw_of hB⟩
 have m1:MH κ T (#[al]:Array Keyed).toList.reverse (a.toList.take (a.size-1)) (b.toList.take b.size):=hm_a m0 el fun j _ hj=>KeyOrd.kle_trans (hB j (b.size-1) (by omega) (by omega)) h2
 refine wpS_bind (wpS_lift (wpAny_rule ⟨rfl,wpS_bind (elem_ok el ?_)⟩))
 dsimp only
 by_cases y1:a.size-1=0
 ·rw[if_pos (by simpa using y1)]
  exact wpS_pure (h _ _ (Sm.refl _) (hf_a m1 y1))
 rw[if_neg (by simpa using y1)]
 by_cases y2:b.size=1
 ·rw[if_pos (by simpa using y2)]
  exact wpS_pure (h _ _ (Sm.refl _) (hf_f m1 y2 hb hf))
 rw[if_neg (by simpa using y2)]
 refine wpS_bind (wpS_get ?_)
 refine wpS_bind (wpS_mono (wpS_forRange (I:=fun x c st'=>Sm st st'/\∃ na nb out mg,c=(none,na,nb,out,mg)/\MH κ T out.toList.reverse (a.toList.take na) (b.toList.take nb)/\0<na/\na<=a.size/\1<nb/\nb<=b.size/\x+na+nb<a.size+b.size)
  (Q:=fun c st'=>Sm st st'/\∃ R r,c=(some R,r)/\Good κ T R) ?ostep ?ofin ⟨Sm.refl _,_,_,_,_,rfl,m1,by lia,by omega,by lia,by lia,by omega⟩) ?opost)
 case opost =>
  rintro c st' ⟨sm,R,r,rfl,g⟩
  exact wpS_pure (h R st' sm g)
 case ofin =>
  rintro c st' ⟨sm,na,nb,out,mg,rfl,m,q1,q1',q2,q2',q3⟩
  lia
 case ostep =>
  intro x c st1 _ hx hI
  have sm1:=hI.1
  refine el4 c hI.2 fun na nb out mg hP=>?_
  have m:=hP.1
  have q1:=hP.2.1
  have q1':=hP.2.2.1
  have q2:=hP.2.2.2.1
  have q2':=hP.2.2.2.2.1
  have q3:=hP.2.2.2.2.2
  clear hI hP
  dsimp only
  refine wpS_bind (wpS_mono (wpS_forRange (I:=fun y c st'=>Sm st st'/\∃ na nb out ac bc,c=(none,na,nb,out,ac,bc)/\MH κ T out.toList.reverse (a.toList.take na) (b.toList.take nb)/\0<na/\na<=a.size/\1<nb/\nb<=b.size/\x+min y 1+na+nb<a.size+b.size)
   (Q:=fun c st'=>Sm st st'/\((∃ R r,c=(some R,r)/\Good κ T R)\/∃ na nb out ac bc,c=(none,na,nb,out,ac,bc)/\MH κ T out.toList.reverse (a.toList.take na) (b.toList.take nb)/\0<na/\na<=a.size/\1<nb/\nb<=b.size/\x+1+na+nb<a.size+b.size))
   ?istep ?ifin ⟨sm1,_,_,_,_,_,rfl,m,q1,q1',q2,q2',by lia⟩) ?ipost)
  case ifin =>
   rintro c st' ⟨sm,na,nb,out,ac,bc,rfl,m,q1,q1',q2,q2',q3⟩
   exact⟨sm,.inr ⟨na,nb,out,ac,bc,rfl,m,q1,q1',q2,q2',by lia⟩⟩
  case istep =>
   intro y c st2 _ hy hI
   have sm:=hI.1
   refine el5 c hI.2 fun na nb out ac bc hP=>?_
   have m:=hP.1
   have q1:=hP.2.1
   have q1':=hP.2.2.1
   have q2:=hP.2.2.2.1
   have q2':=hP.2.2.2.2.1
   have q3:=hP.2.2.2.2.2
   clear hI hP
   dsimp only
   obtain⟨n,rfl⟩:∃ n,na=n+1:=⟨na-1,by omega⟩
   obtain⟨l,rfl⟩:∃ l,nb=l+1:=⟨nb-1,by omega⟩
   obtain⟨pb,eb⟩:=get_of_lt (xs:=b) (i:=l) (by lia)
   obtain⟨pa,ea⟩:=get_of_lt (xs:=a) (i:=n) (by lia)
   refine wpS_bind (elem_ok eb (wpS_bind (elem_ok ea (wpS_bind (lt_ok hO (sm.k.trans hk) (kb _ _ eb) (ka _ _ ea) ?_)))))
   cases t:κ.blt (kk κ pb) (kk κ pa)with
   |true =>
    dsimp only
    rw[if_pos rfl]
    have tk:κ.kle (KK κ b l) (KK κ a n):=by rw[KK_of eb,KK_of ea];exact KeyOrd.kle_of_klt t
    have m':=hm_a m ea fun j j1 j2=>KeyOrd.kle_trans (hB j l (by lia) (by lia)) tk
    refine wpS_bind (elem_ok ea ?_)
    by_cases z:n=0
    ·rw[if_pos (by simpa using z)]
     exact wpS_pure ⟨sm,.inl ⟨_,_,rfl,hf_a m' z⟩⟩
    ·rw[if_neg (by simpa using z)]
     refine wpS_if (fun _=>?_) fun _=>?_
     ·exact wpS_pure ⟨sm,.inr ⟨_,_,_,_,_,rfl,m',by lia,by lia,by omega,by omega,by lia⟩⟩
     ·exact wpS_pure ⟨sm,_,_,_,_,_,rfl,m',by lia,by lia,by omega,by omega,by lia⟩
   |false =>
    dsimp only
    rw[if_neg Bool.false_ne_true]
    have tk:κ.kle (KK κ a n) (KK κ b l):=by rw[KK_of eb,KK_of ea];exact t
    have m':=hm_b m eb fun j j1 j2=>KeyOrd.kle_trans (hA j n (by lia) (by lia)) tk
    refine wpS_bind (elem_ok eb ?_)
    by_cases z:l=1
    ·rw[if_pos (by simpa using z)]
     exact wpS_pure ⟨sm,.inl ⟨_,_,rfl,hf_f m' z hb hf⟩⟩
    ·rw[if_neg (by simpa using z)]
     refine wpS_if (fun _=>?_) fun _=>?_
     ·exact wpS_pure ⟨sm,.inr ⟨_,_,_,_,_,rfl,m',by omega,by omega,by lia,by lia,by lia⟩⟩
     ·exact wpS_pure ⟨sm,_,_,_,_,_,rfl,m',by omega,by omega,by lia,by lia,by lia⟩
  case ipost =>
   intro c st2 hI
   have sm2:=hI.1
   refine eo5 c hI.2 (fun R r g=>?_) fun na nb out ac bc hP=>?_
   ·exact wpS_pure ⟨sm2,R,_,rfl,g⟩
   have m:=hP.1
   have q1:=hP.2.1
   have q1':=hP.2.2.1
   have q2:=hP.2.2.2.1
   have q2':=hP.2.2.2.2.1
   have q3:=hP.2.2.2.2.2
   clear hI hP
   dsimp only
   refine wpS_bind (wpS_lift (wpAny_rule ⟨rfl,?_⟩))
   refine wpS_bind (wpS_mono (wpS_forRange (I:=fun y c st'=>Sm st st'/\∃ na nb out mg ac bc,c=(none,na,nb,out,mg,ac,bc)/\MH κ T out.toList.reverse (a.toList.take na) (b.toList.take nb)/\0<na/\na<=a.size/\1<nb/\nb<=b.size/\x+1+na+nb<a.size+b.size)
    (Q:=fun c st'=>Sm st st'/\((∃ R r,c=(some R,r)/\Good κ T R)\/∃ na nb out mg ac bc,c=(none,na,nb,out,mg,ac,bc)/\MH κ T out.toList.reverse (a.toList.take na) (b.toList.take nb)/\0<na/\na<=a.size/\1<nb/\nb<=b.size/\x+1+na+nb<a.size+b.size))
    ?gstep ?gfin ⟨sm2,_,_,_,_,_,_,rfl,m,q1,q1',q2,q2',q3⟩) ?gpost)
   case gfin =>
    exact fun c st' hI=>⟨hI.1,.inr hI.2⟩
   case gpost =>
    intro c st3 hI
    have sm3:=hI.1
    refine eo6 c hI.2 (fun R r g=>?_) fun na nb out mg ac bc hP=>?_
    ·exact wpS_pure ⟨sm3,R,_,rfl,g⟩
    dsimp only
    have m:=hP.1
    have q1:=hP.2.1
    have q1':=hP.2.2.1
    have q2:=hP.2.2.2.1
    have q2':=hP.2.2.2.2.1
    have q3:=hP.2.2.2.2.2
    clear hI hP
    exact wpS_bind (wpS_modify (wpS_pure ⟨sm3.min _,_,_,_,_,rfl,m,q1,q1',q2,q2',by omega⟩))
   case gstep =>
    intro y c st3 _ hy hI
    have sm:=hI.1
    refine el6 c hI.2 fun na nb out mg ac bc hP=>?_
    have m:=hP.1
    have q1:=hP.2.1
    have q1':=hP.2.2.1
    have q2:=hP.2.2.2.1
    have q2':=hP.2.2.2.2.1
    have q3:=hP.2.2.2.2.2
    clear hI hP
    dsimp only
    obtain⟨l,rfl⟩:∃ l,nb=l+1:=⟨nb-1,by omega⟩
    obtain⟨pb,eb⟩:=get_of_lt (xs:=b) (i:=l) (by lia)
    refine' wpS_ifS (P:=_) ?A0 (fun _ H=>?A1) fun _ H=>?A2
    case A1=>generalize mg-1=z;revert z;exact H.out
    case A2=>exact H.out _
    intro mg
    refine wpS_bind (wpS_modify ?_)
    refine wpS_bind (elem_ok eb (wpS_bind (gallop_ok (bey_right hO (kb _ _ eb) ka (base:=0) (n:=na) (by lia)) ((sm.min _).k.trans hk) (fun i j hij hj t=>?_) (by omega) fun k k1 k2 k3=>?_)))
    ·have t1:κ.kle (KK κ a (0+j)) (kk κ pb):=by simpa[KeyOrd.kle]using t
     have t2:=KeyOrd.kle_trans (hA (0+i) (0+j) (by lia) (by lia)) t1
     simpa[KeyOrd.kle]using t2
    dsimp only
    have lowk:∀ i,i<k->κ.kle (KK κ a i) (KK κ b l):=fun i i1=>by
     have q:=k2 i i1
     rw[Nat.zero_add]at q
     rw[KK_of eb]
     simpa[KeyOrd.kle]using q
    have upk:∀ i,k<=i->i<na->κ.kle (KK κ b l) (KK κ a i):=fun i i1 i2=>by
     have q:=k3 i i1 i2
     rw[Nat.zero_add]at q
     rw[KK_of eb]
     exact KeyOrd.kle_of_klt (show κ.blt _ _=true by simpa using q)
    refine' wpS_ifS (P:=_) ?B0 (fun kz H=>?B1) fun kz H=>?B2
    case B1 =>
     have mk:=hb_a k1 m fun i i1 i2 _ j j1 j2=>KeyOrd.kle_trans (hB j l (by lia) (by lia)) (upk i i1 i2)
     by_cases w1:k=0
     ·rw[if_pos (by simpa using w1)]
      exact wpS_pure ⟨sm.min _,.inl ⟨_,_,rfl,hf_a mk w1⟩⟩
     rw[if_neg (by simpa using w1)]
     have lo1:=lowk
     have p1:0<k:=by lia
     have p2:k<=a.size:=by lia
     have p3:x+1+k+(l+1)<a.size+b.size:=by lia
     revert mk lo1 p1 p2 p3
     generalize out++(a.extract k na).reverse=out1
     generalize na-k=ac1
     generalize k=na1
     revert out1 ac1 na1
     exact H.out
    case B2 =>
     have k0:k=na:=by omega
     exact H.out _ _ _ m (fun i i1=>lowk i (by lia)) q1 q1' q3
    clear lowk upk k1 k2 k3 m q1 q1' q3
    intro out1 ac1 na1 m1 lo1 p1 p2 p3
    refine wpS_bind (elem_ok eb ?_)
    have m2:=hm_b m1 eb fun i i1 _=>lo1 i i1
    by_cases z:l=1
    ·rw[if_pos (by simpa using z)]
     exact wpS_pure ⟨sm.min _,.inl ⟨_,_,rfl,hf_f m2 z hb hf⟩⟩
    rw[if_neg (by simpa using z)]
    obtain⟨n,rfl⟩:∃ n,na1=n+1:=⟨na1-1,by omega⟩
    obtain⟨pa,ea⟩:=get_of_lt (xs:=a) (i:=n) (by lia)
    refine wpS_bind (elem_ok ea (wpS_bind (gallop_ok (bey_left hO (ka _ _ ea) kb (base:=0) (n:=l) (by lia)) ((sm.min _).k.trans hk) (fun i j hij hj t=>?_) (by omega) fun k2 l1 l2 l3=>?_)))
    ·exact KeyOrd.klt_of_kle_of_klt (hB (0+i) (0+j) (by lia) (by lia)) t
    dsimp only
    have low2:∀ j,j<k2->κ.kle (KK κ b j) (KK κ a n):=fun j j1=>by
     have q:=l2 j j1
     rw[Nat.zero_add]at q
     rw[KK_of ea]
     exact KeyOrd.kle_of_klt q
    have up2:∀ j,k2<=j->j<l->κ.kle (KK κ a n) (KK κ b j):=fun j j1 j2=>by
     have q:=l3 j j1 j2
     rw[Nat.zero_add]at q
     rw[KK_of ea]
     exact q
    refine' wpS_ifS (P:=_) ?C0 (fun kz2 H=>?C1) fun kz2 H=>?C2
    case C1 =>
     have m3:=hb_b l1 m2 fun j j1 j2 _ i i1 i2=>KeyOrd.kle_trans (hA i n (by lia) (by lia)) (up2 j j1 j2)
     by_cases z2:k2=1
     ·rw[if_pos (by simpa using z2)]
      exact wpS_pure ⟨sm.min _,.inl ⟨_,_,rfl,hf_f m3 z2 hb hf⟩⟩
     rw[if_neg (by simpa using z2)]
     by_cases z4:k2=0
     ·rw[if_pos (by simpa using z4)]
      exact wpS_pure ⟨sm.min _,.inl ⟨_,_,rfl,hf_b m3 z4⟩⟩
     rw[if_neg (by simpa using z4)]
     have lo2:=low2
     have e1:1<k2:=by lia
     have e2:k2<=b.size:=by lia
     have e3:x+1+n+k2<a.size+b.size:=by lia
     revert m3 lo2 e1 e2 e3
     generalize out1.push pb++(b.extract k2 (l+1-1)).reverse=out2
     generalize l+1-1-k2=bc2
     generalize k2=nb2
     revert out2 bc2 nb2
     exact H.out
    case C2 =>
     have k0:k2=l:=by lia
     exact H.out _ _ _ m2 (fun j j1=>low2 j (by lia)) (by lia) (by lia) (by lia)
    clear low2 up2 l1 l2 l3 m2 m1 p1 p3
    intro out2 bc2 nb2 m3 lo2 e1 e2 e3
    refine wpS_bind (elem_ok ea ?_)
    have m4:=hm_a m3 ea fun j j1 _=>lo2 j j1
    by_cases z3:n=0
    ·rw[if_pos (by simpa using z3)]
     exact wpS_pure ⟨sm.min _,.inl ⟨_,_,rfl,hf_a m4 z3⟩⟩
    rw[if_neg (by simpa using z3)]
    have e4:0<n:=by lia
    have e5:n<=a.size:=by lia
    refine wpS_if (fun _=>?_) fun _=>?_
    ·exact wpS_pure ⟨sm.min _,.inr ⟨_,_,_,_,_,_,rfl,m4,e4,e5,e1,e2,e3⟩⟩
    ·exact wpS_pure ⟨sm.min _,_,_,_,_,_,_,rfl,m4,e4,e5,e1,e2,e3⟩
end
open PySem PyProof.Rows
theorem write_blk:∀ (m:List Keyed) (xs:Array Keyed) (sa j0:Nat),sa+j0+m.length<=xs.size ->
  ((m.zipIdx j0).foldl (fun(a:Array Keyed) (q:Keyed×Nat)=>a.setIfInBounds (sa+q.2) q.1) xs).toList=xs.toList.take (sa+j0)++m++xs.toList.drop (sa+j0+m.length)
 |[],xs,sa,j0,h=>by simp
 |p :: r,xs,sa,j0,h=>by
  rw[List.length_cons]at h
  rw[List.zipIdx_cons,List.foldl_cons,write_blk r _ sa (j0+1) (by rw[Array.size_setIfInBounds];lia)]
  have hl:xs.toList.length=xs.size:=by simp
  rw[Array.toList_setIfInBounds]
  have e1:(xs.toList.set (sa+j0) p).take (sa+(j0+1))=xs.toList.take (sa+j0)++[p]:=by
   rw[show sa+(j0+1)=sa+j0+1 by lia,List.take_add_one,List.take_set_of_le (Nat.le_refl _),List.getElem?_set_self (by lia)]
   rfl
  have e2:(xs.toList.set (sa+j0) p).drop (sa+(j0+1)+r.length)=xs.toList.drop (sa+j0+(p :: r).length):=by
   rw[List.drop_set_of_lt (by lia),List.length_cons]
   congr 1
   lia
  rw[e1,e2]
  simp
theorem SIn.pw{κ:KeyKind}{xs:Array Keyed}{lo n:Nat}(h:SIn κ xs lo n):((xs.toList.drop lo).take n).Pairwise (kL κ):=by
 rw[List.pairwise_iff_getElem]
 intro i j hi hj hij
 rw[List.length_take,List.length_drop]at hi hj
 have hl:xs.toList.length=xs.size:=by simp
 have q:=h i j (by lia) (by lia)
 have g:∀ m,(hm:m<min n (xs.toList.length-lo))->xs[lo+m]?=some (((xs.toList.drop lo).take n)[m]'(by rw[List.length_take,List.length_drop];exact hm)):=fun m hm=>by
  rw[List.getElem_take,List.getElem_drop,<- List.getElem?_eq_getElem (by omega)]
  simp
 rw[KK_of (g i hi),KK_of (g j hj)]at q
 exact q
section
variable{prog:Program}{w:World}{A:Around}{E:Value->Shared->Prop}{s:Shared}{κ:KeyKind}{kd:SortKind}{st:SortSt}{a₀:Array Keyed}{n1 n2 pw:Nat}
theorem keyd_of{xs:Array Keyed}(hp:xs.Perm a₀)(h0:KeysOf κ a₀):Keyd κ xs:=fun i p hi=>by
 have hm:p∈a₀.toList:=(Array.perm_iff_toList_perm.mp hp).mem_iff.mp (by
  have:=Array.mem_of_getElem? hi
  simpa using this)
 exact h0 p hm
theorem keyd_ext{xs:Array Keyed}(h:Keyd κ xs)(i j:Nat):Keyd κ (xs.extract i j):=fun m p hm=>by
 rw[Array.getElem?_extract]at hm
 split at hm
 ·exact h _ _ hm
 ·cases hm
theorem KK_ext{xs:Array Keyed}{i j m:Nat}(hm:m<min j xs.size-i):KK κ (xs.extract i j) m=KK κ xs (i+m):=by
 apply KK_congr
 rw[Array.getElem?_extract,if_pos hm]
theorem wpS_set{σ:Type}{M:Model}{x st:σ}{Q:PUnit->σ->Prop}(h:Q ⟨⟩ x):wpS M A E s (set x:StateT σ Sem PUnit) Q st:=by
 unfold wpS
 rw[StateT.run_set]
 exact wpAny_pure ⟨rfl,h⟩
theorem glue{L P X Y S M:List Keyed}(hL:L=P++X++(Y++S))(hM:M.Perm (X++Y))(sM:M.Pairwise (kL κ))(sa:(P++X).Pairwise (kL κ))(sb:(Y++S).Pairwise (kL κ))(hPY:∀ x∈P,∀ y∈Y++S,kL κ x y)(hXS:∀ x∈X,∀ y∈S,kL κ x y) :
  (P++M++S).Perm L/\(P++M++S).Pairwise (kL κ):=by
 obtain⟨p1,p2,p3⟩:=List.pairwise_append.mp sa
 obtain⟨r1,r2,r3⟩:=List.pairwise_append.mp sb
 constructor
 ·rw[hL]
  simp only[List.append_assoc]
  refine List.Perm.append_left P ?_
  rw[<- List.append_assoc X]
  exact List.Perm.append_right S hM
 ·refine List.pairwise_append.mpr ⟨List.pairwise_append.mpr ⟨p1,sM,fun x hx y hy=>?_⟩,r2,fun x hx y hy=>?_⟩
  ·rcases List.mem_append.mp (hM.mem_iff.mp hy)with q | q
   ·exact p3 x hx y q
   ·exact hPY x hx y (List.mem_append_left _ q)
  ·rcases List.mem_append.mp hx with q | q
   ·exact hPY x q y (List.mem_append_right _ hy)
   ·rcases List.mem_append.mp (hM.mem_iff.mp q)with q | q
    ·exact hXS x q y hy
    ·exact r3 x q y hy
theorem SIn.of_seg{κ:KeyKind}{xs:Array Keyed}{P B S:List Keyed}(e:xs.toList=P++B++S)(h:B.Pairwise (kL κ)):SIn κ xs P.length B.length:=by
 intro i j hij hj
 by_cases ij:i=j
 ·subst ij;exact KeyOrd.kle_refl _
 have g:∀ m (hm:m<B.length),xs[P.length+m]?=some B[m]:=fun m hm=>by
  rw[<- Array.getElem?_toList,e,List.append_assoc,List.getElem?_append_right (by lia),Nat.add_sub_cancel_left,List.getElem?_append_left hm,List.getElem?_eq_getElem hm]
 rw[KK_of (g i (by lia)),KK_of (g j hj)]
 exact(List.pairwise_iff_getElem.mp h) i j (by lia) hj (by lia)
theorem mergeAt_ok{Q:Bool->SortSt->Prop}{i b pw pw2:Nat}(hO:LtOk κ kd prog w A s)(h0:KeysOf κ a₀)(hk:kindOf st=kd)(hp:(arrOf st).Perm a₀)(hf:failedOf st=none)(hpa:(pendingOf st)[i]?=some (b,n1,pw))(hpb:(pendingOf st)[i+1]?=some (b+n1,n2,pw2))(hsz:b+n1+n2<=a₀.size)(h1:0<n1)(h2:0<n2)
  (s1:SIn κ (arrOf st) b n1) (s2:SIn κ (arrOf st) (b+n1) n2)
  (h:∀ st',(arrOf st').Perm a₀->failedOf st'=none->pendingOf st'=((pendingOf st).setIfInBounds i (b,n1+n2,pw)).eraseIdxIfInBounds (i+1)->SIn κ (arrOf st') b (n1+n2)->kindOf st'=kd->(∀ k,k<b\/b+n1+n2<=k->(arrOf st')[k]?=(arrOf st)[k]?)->Q true st'):wpS (model prog w) A E s (mergeAt' i) Q st:=by
 obtain⟨kd',xs,pend,mg,fl⟩:=st
 change kd'=kd at hk
 change xs.Perm a₀ at hp
 change fl=none at hf
 change pend[i]?=_ at hpa
 change pend[i+1]?=_ at hpb
 change SIn κ xs b n1 at s1
 change SIn κ xs (b+n1) n2 at s2
 subst hk hf
 have hs:b+n1+n2<=xs.size:=by rw[hp.size_eq];exact hsz
 have hl:xs.toList.length=xs.size:=by simp
 have kd0:=keyd_of hp h0
 obtain⟨pb,eb⟩:=get_of_lt (xs:=xs) (i:=b+n1) (by lia)
 refine wpS_bind (wpS_get ?_)
 dsimp only
 rw[hpa,hpb]
 dsimp only
 refine wpS_bind (wpS_set ?_)
 change ∀ st':SortSt,(arrOf st').Perm a₀->failedOf st'=none->pendingOf st'=(pend.setIfInBounds i (b,n1+n2,pw)).eraseIdxIfInBounds (i+1)->SIn κ (arrOf st') b (n1+n2)->kindOf st'=kd'->(∀ k,k<b\/b+n1+n2<=k->(arrOf st')[k]?=xs[k]?)->Q true st' at h
 generalize (pend.setIfInBounds i (b,n1+n2,pw)).eraseIdxIfInBounds (i+1)=pend' at h ⊢
 refine wpS_bind (elem_ok eb (wpS_bind (gallop_ok (kd:=kd') (bey_right (arr:=xs) hO (kd0 _ _ eb) kd0 (base:=b) (n:=n1) (by lia)) rfl (fun i j hij hj t=>?_) h1 fun k k1 k2 k3=>?_)))
 ·have t1:κ.kle (KK κ xs (b+j)) (kk κ pb):=by simpa[KeyOrd.kle]using t
  have t2:=KeyOrd.kle_trans (s1 i j hij hj) t1
  simpa[KeyOrd.kle]using t2
 dsimp only
 have lowk:∀ i,i<k->κ.kle (KK κ xs (b+i)) (KK κ xs (b+n1)):=fun i hi=>by
  have q:=k2 i hi
  rw[KK_of eb]
  simpa[KeyOrd.kle]using q
 have upk:∀ i,k<=i->i<n1->κ.kle (KK κ xs (b+n1)) (KK κ xs (b+i)):=fun i i1 i2=>by
  have q:=k3 i i1 i2
  rw[KK_of eb]
  exact KeyOrd.kle_of_klt (show κ.blt _ _=true by simpa using q)
 have hA:∀ i j,i<=j->j<n1->κ.kle (KK κ xs (b+i)) (KK κ xs (b+j)):=s1
 have hB:∀ i j,i<=j->j<n2->κ.kle (KK κ xs (b+n1+i)) (KK κ xs (b+n1+j)):=s2
 have calm:(∀ i j,i<n1->j<n2->κ.kle (KK κ xs (b+i)) (KK κ xs (b+n1+j)))->SIn κ xs b (n1+n2):=fun hc i j hij hj=>by
  by_cases j1:j<n1
  ·exact hA i j hij j1
  ·obtain⟨j',rfl⟩:∃ j',j=n1+j':=⟨j-n1,by lia⟩
   rw[<- Nat.add_assoc]
   by_cases i1:i<n1
   ·exact hc i j' i1 (by lia)
   ·obtain⟨i',rfl⟩:∃ i',i=n1+i':=⟨i-n1,by lia⟩
    rw[<- Nat.add_assoc]
    exact hB i' j' (by lia) (by lia)
 by_cases z1:n1-k=0
 ·rw[if_pos (by simpa using z1)]
  refine wpS_pure (h _ hp rfl rfl (calm fun i j i1 j1=>KeyOrd.kle_trans (lowk i (Nat.lt_of_lt_of_le i1 (Nat.le_of_sub_eq_zero z1))) ?_) rfl fun _ _=>rfl)
  have:=hB 0 j (Nat.zero_le _) j1
  rwa [Nat.add_zero]at this
 rw[if_neg (by simpa using z1)]
 have pk:0<n1-k:=Nat.pos_of_ne_zero z1
 have eL:b+k+(n1-k)-1=b+(n1-1):=by lia
 obtain⟨pa,ea'⟩:=get_of_lt (xs:=xs) (i:=b+(n1-1)) (by lia)
 have ea:xs[b+k+(n1-k)-1]?=some pa:=by rw[eL];exact ea'
 refine wpS_bind (elem_ok ea (wpS_bind (gallop_ok (kd:=kd') (bey_left (arr:=xs) hO (kd0 _ _ ea) kd0 (base:=b+n1) (n:=n2) hs) rfl (fun i j hij hj t=>?_) (Nat.sub_lt h2 Nat.one_pos) fun m m1 m2 m3=>?_)))
 ·exact KeyOrd.klt_of_kle_of_klt (s2 i j hij hj) t
 dsimp only
 have lowm:∀ j,j<m->κ.kle (KK κ xs (b+n1+j)) (KK κ xs (b+(n1-1))):=fun j j2=>by
  have q:=m2 j j2
  rw[KK_of ea']
  exact KeyOrd.kle_of_klt q
 have upm:∀ j,m<=j->j<n2->κ.kle (KK κ xs (b+(n1-1))) (KK κ xs (b+n1+j)):=fun j j1 j2=>by
  have q:=m3 j j1 j2
  rw[KK_of ea']
  exact q
 by_cases z2:m=0
 ·rw[if_pos (by simpa using z2)]
  exact wpS_pure (h _ hp rfl rfl (calm fun i j i1 j2=>KeyOrd.kle_trans (hA i (n1-1) (by omega) (by omega)) (upm j (by lia) j2)) rfl fun _ _=>rfl)
 rw[if_neg (by simpa using z2)]
 have pm:0<m:=Nat.pos_of_ne_zero z2
 have zx:(xs.extract (b+k) (b+n1)).size=n1-k:=by rw[Array.size_extract];lia
 have zy:(xs.extract (b+n1) (b+n1+m)).size=m:=by rw[Array.size_extract];lia
 have kx:=keyd_ext kd0 (b+k) (b+n1)
 have ky:=keyd_ext kd0 (b+n1) (b+n1+m)
 have KX:∀ i,i<n1-k->KK κ (xs.extract (b+k) (b+n1)) i=KK κ xs (b+(k+i)):=fun i hi=>by rw[KK_ext (by lia),Nat.add_assoc]
 have KY:∀ i,i<m->KK κ (xs.extract (b+n1) (b+n1+m)) i=KK κ xs (b+n1+i):=fun i hi=>by rw[KK_ext (by lia)]
 have sX:∀ i j,i<=j->j <(xs.extract (b+k) (b+n1)).size->κ.kle (KK κ (xs.extract (b+k) (b+n1)) i) (KK κ (xs.extract (b+k) (b+n1)) j):=fun i j hij hj=>by
  rw[zx]at hj
  rw[KX i (by lia),KX j hj]
  exact hA _ _ (by lia) (by lia)
 have sY:∀ i j,i<=j->j <(xs.extract (b+n1) (b+n1+m)).size->κ.kle (KK κ (xs.extract (b+n1) (b+n1+m)) i) (KK κ (xs.extract (b+n1) (b+n1+m)) j):=fun i j hij hj=>by
  rw[zy]at hj
  rw[KY i (by lia),KY j hj]
  exact hB _ _ hij (by lia)
 have f1:κ.kle (KK κ (xs.extract (b+n1) (b+n1+m)) 0) (KK κ (xs.extract (b+k) (b+n1)) 0):=by
  rw[KX 0 pk,KY 0 pm]
  exact upk (k+0) (by lia) (by lia)
 have f2:κ.kle (KK κ (xs.extract (b+n1) (b+n1+m)) ((xs.extract (b+n1) (b+n1+m)).size-1)) (KK κ (xs.extract (b+k) (b+n1)) ((xs.extract (b+k) (b+n1)).size-1)):=by
  rw[zx,zy,KX _ (by omega),KY _ (by lia),show k+(n1-k-1)=n1-1 by lia]
  exact lowm _ (by lia)
 have eX:(xs.extract (b+k) (b+n1)).toList=(xs.toList.drop (b+k)).take (n1-k):=by
  have e:=ext_blk xs (b+k) (n1-k)
  rwa [show b+k+(n1-k)=b+n1 by lia]at e
 have eY:(xs.extract (b+n1) (b+n1+m)).toList=(xs.toList.drop (b+n1)).take m:=ext_blk xs (b+n1) m
 have eA:(xs.toList.drop b).take n1=(xs.toList.drop b).take k++(xs.toList.drop (b+k)).take (n1-k):=by
  rw[show n1=k+(n1-k) by lia,List.take_add,List.drop_drop]
  rw[show k+(n1-k)-k=n1-k by lia]
 have eB:(xs.toList.drop (b+n1)).take n2=(xs.toList.drop (b+n1)).take m++(xs.toList.drop (b+n1+m)).take (n2-m):=by
  rw[show n2=m+(n2-m) by lia,List.take_add,List.drop_drop]
  rw[show m+(n2-m)-m=n2-m by lia]
 have gat:∀ (c d:Nat) (x:Keyed),x∈(xs.toList.drop c).take d->c+d<=xs.size->∃ j,j<d/\xs[c+j]?=some x:=fun c d x hx hc=>by
  obtain⟨j,j1,j2,j3,j4⟩:=mem_blk hx
  exact⟨j-c,by lia,by rw[show c+(j-c)=j by lia];exact j4⟩
 have behind:∀ (R:Array Keyed) (st':SortSt),Sm (SortSt.mk' kd' xs pend' mg none) st'->Good κ ((xs.extract (b+k) (b+n1)).toList++(xs.extract (b+n1) (b+n1+m)).toList) R ->
   Q true (setArr st' ((R.toList.zipIdx).foldl (fun(a:Array Keyed) (q:Keyed×Nat)=>a.setIfInBounds (b+k+q.2) q.1) (arrOf st')))/\failedOf st'=none:=by
  intro R st' sm g
  have ea1:arrOf st'=xs:=sm.a
  have zR:R.toList.length=n1-k+m:=by
   rw[g.1.length_eq,List.length_append,Array.length_toList,Array.length_toList,zx,zy]
  have W:=write_blk R.toList xs (b+k) 0 (by lia)
  have gl:=glue (κ:=κ) (L:=(xs.toList.drop b).take k++(xs.toList.drop (b+k)).take (n1-k)++((xs.toList.drop (b+n1)).take m++(xs.toList.drop (b+n1+m)).take (n2-m))) (M:=R.toList)
   rfl (by rw[<- eX,<- eY];exact g.1) g.2 (by rw[<- eA];exact SIn.pw s1) (by rw[<- eB];exact SIn.pw s2)
   (fun x hx y hy=>by
    rw[<- eB]at hy
    obtain⟨i,i1,i2⟩:=gat _ _ _ hx (by lia)
    obtain⟨j,j1,j2⟩:=gat _ _ _ hy (by omega)
    have q0:=hB 0 j (Nat.zero_le _) j1
    rw[Nat.add_zero]at q0
    have q:=KeyOrd.kle_trans (lowk i i1) q0
    rw[KK_of i2,KK_of j2]at q
    exact q)
   (fun x hx y hy=>by
    obtain⟨i,i1,i2⟩:=gat _ _ _ hx (by lia)
    obtain⟨j,j1,j2⟩:=gat _ _ _ hy (by lia)
    have q:=KeyOrd.kle_trans (hA (k+i) (n1-1) (by lia) (by omega)) (upm (m+j) (by lia) (by lia))
    rw[<- Nat.add_assoc,<- Nat.add_assoc,KK_of i2,KK_of j2]at q
    exact q)
  have eP:xs.toList.take (b+k)=xs.toList.take b++(xs.toList.drop b).take k:=List.take_add
  have eS:xs.toList.drop (b+n1+m)=(xs.toList.drop (b+n1+m)).take (n2-m)++xs.toList.drop (b+n1+n2):=by
   have:=List.take_append_drop (n2-m) (xs.toList.drop (b+n1+m))
   rw[List.drop_drop,show b+n1+m+(n2-m)=b+n1+n2 by lia]at this
   exact this.symm
  have eW:((R.toList.zipIdx).foldl (fun(a:Array Keyed) (q:Keyed×Nat)=>a.setIfInBounds (b+k+q.2) q.1) xs).toList=xs.toList.take b++((xs.toList.drop b).take k++R.toList++(xs.toList.drop (b+n1+m)).take (n2-m))++xs.toList.drop (b+n1+n2):=by
   rw[W,zR,show b+k+0=b+k by lia,show b+k+(n1-k+m)=b+n1+m by lia,eP]
   conv=>lhs;rw[eS]
   simp only[List.append_assoc]
  have eO:xs.toList=xs.toList.take b++((xs.toList.drop b).take k++(xs.toList.drop (b+k)).take (n1-k)++((xs.toList.drop (b+n1)).take m++(xs.toList.drop (b+n1+m)).take (n2-m)))++xs.toList.drop (b+n1+n2):=by
   rw[<- eA,<- eB]
   conv=>lhs;rw[<- List.take_append_drop b xs.toList,<- List.take_append_drop n1 (xs.toList.drop b),List.drop_drop,<- List.take_append_drop n2 (xs.toList.drop (b+n1)),List.drop_drop]
   simp only[List.append_assoc]
  have tb:(xs.toList.take b).length=b:=by rw[List.length_take];lia
  have zM:((xs.toList.drop b).take k++R.toList++(xs.toList.drop (b+n1+m)).take (n2-m)).length=n1+n2:=by
   rw[List.length_append,List.length_append,List.length_take,List.length_take,List.length_drop,List.length_drop,zR];lia
  refine⟨?_,sm.f⟩
  rw[ea1]
  generalize hW:(R.toList.zipIdx).foldl (fun(a:Array Keyed) (q:Keyed×Nat)=>a.setIfInBounds (b+k+q.2) q.1) xs=ys at eW
  have pp:ys.Perm a₀:=by
   refine Array.Perm.trans ?_ hp
   rw[Array.perm_iff_toList_perm,eW]
   refine List.Perm.trans ?_ (List.Perm.of_eq eO.symm)
   exact(gl.1.append_left _).append_right _
  refine h _ pp sm.f sm.p ?_ sm.k fun c hc=>?_
  ·have q:=SIn.of_seg (κ:=κ) eW gl.2
   rw[tb,zM]at q
   exact q
  ·show ys[c]?=xs[c]?
   rw[<- Array.getElem?_toList,<- Array.getElem?_toList,eW]
   rcases hc with hc | hc
   ·rw[List.append_assoc,List.getElem?_append_left (by lia),List.getElem?_take_of_lt hc]
   ·rw[List.getElem?_append_right (by rw[List.length_append,tb,zM];lia),List.getElem?_drop,List.length_append,tb,zM]
    congr 1
    lia
 refine wpS_if (fun _=>?_) fun _=>?_
 ·refine wpS_bind (mergeLo_ok (kd:=kd') hO rfl kx ky sX sY (Nat.lt_of_lt_of_eq pk zx.symm) (Nat.lt_of_lt_of_eq pm zy.symm) f1 f2 fun R st' sm g=>?_)
  obtain⟨q1,q2⟩:=behind R st' sm g
  refine wpS_bind (wpS_modify (wpS_bind (wpS_get (wpS_pure ?_))))
  show Q (failedOf st').isNone _
  rw[q2]
  exact q1
 ·refine wpS_bind (mergeHi_ok (kd:=kd') hO rfl kx ky sX sY (Nat.lt_of_lt_of_eq pk zx.symm) (Nat.lt_of_lt_of_eq pm zy.symm) f1 f2 fun R st' sm g=>?_)
  obtain⟨q1,q2⟩:=behind R st' sm g
  refine wpS_bind (wpS_modify (wpS_bind (wpS_get (wpS_pure ?_))))
  show Q (failedOf st').isNone _
  rw[q2]
  exact q1
end
open PySem PyProof.Rows
section
variable{prog:Program}{w:World}{A:Around}{E:Value->Shared->Prop}{s:Shared}{κ:KeyKind}{kd:SortKind}{st:SortSt}{a₀:Array Keyed}
theorem SIn.congr{xs ys:Array Keyed}{lo n:Nat}(h:SIn κ xs lo n)(e:∀ k,lo<=k->k<lo+n->ys[k]?=xs[k]?):SIn κ ys lo n:=fun i j hij hj=>by
 rw[KK_congr (ys:=xs) (e (lo+i) (by lia) (by lia)),KK_congr (ys:=xs) (e (lo+j) (by lia) (by lia))]
 exact h i j hij hj
noncomputable def Runs(κ:KeyKind)(xs:Array Keyed):List (Nat×Nat)->Nat->Nat->Prop
 |[],s,e=>s=e
 |z :: r,s,e=>z.1=s/\0<z.2/\SIn κ xs s z.2/\Runs κ xs r (s+z.2) e
theorem Runs.len{xs:Array Keyed}:∀ {l:List (Nat×Nat)}{s e:Nat},Runs κ xs l s e->l.length+s<=e
 |[],s,e,h=>by have h:s=e:=h;simp;lia
 |z :: r,s,e,h=>by
  obtain⟨_,h2,_,h4⟩:=h
  have:=Runs.len h4
  rw[List.length_cons]
  lia
theorem Runs.congr{xs ys:Array Keyed}:∀ {l:List (Nat×Nat)}{s e:Nat},Runs κ xs l s e->(∀ k,s<=k->k<e->ys[k]?=xs[k]?)->Runs κ ys l s e
 |[],_,_,h,_=>h
 |z :: r,s,e,h,c=>by
  obtain⟨h1,h2,h3,h4⟩:=h
  have:=h4.len
  exact⟨h1,h2,h3.congr fun k a b=>c k a (by lia),Runs.congr h4 fun k a b=>c k (by lia) b⟩
theorem Runs.app{xs:Array Keyed}{l2:List (Nat×Nat)}{e:Nat}:∀ {l1:List (Nat×Nat)}{s:Nat},Runs κ xs (l1++l2) s e↔∃ m,Runs κ xs l1 s m/\Runs κ xs l2 m e
 |[],s=>by
  constructor
  ·exact fun h=>⟨s,rfl,h⟩
  ·rintro⟨m,h,h'⟩
   cases(show s=m from h)
   exact h'
 |z :: l1,s=>by
  constructor
  ·rintro⟨h1,h2,h3,h4⟩
   obtain⟨m,a,b⟩:=Runs.app.mp h4
   exact⟨m,⟨h1,h2,h3,a⟩,b⟩
  ·rintro⟨m,⟨h1,h2,h3,h4⟩,b⟩
   exact⟨h1,h2,h3,Runs.app.mpr ⟨m,h4,b⟩⟩
noncomputable def pr2(z:Nat×Nat×Nat):Nat×Nat:=(z.1,z.2.1)
noncomputable def prs(p:Array (Nat×Nat×Nat)):List (Nat×Nat):=p.toList.map pr2
theorem prs_len(p:Array (Nat×Nat×Nat)):(prs p).length=p.size:=by unfold prs;simp
theorem prs_push(p:Array (Nat×Nat×Nat))(z:Nat×Nat×Nat):prs (p.push z)=prs p++[pr2 z]:=by unfold prs;simp
theorem mod_map{f:Nat×Nat×Nat->Nat×Nat×Nat}(hf:∀ z,pr2 (f z)=pr2 z):∀ (l:List (Nat×Nat×Nat)) (j:Nat),(l.modify j f).map pr2=l.map pr2
 |[],j=>by simp
 |z :: l,0=>by simp[hf]
 |z :: l,j+1=>by simp[mod_map hf l j]
theorem prs_mod(p:Array (Nat×Nat×Nat))(j pw:Nat):prs (p.modify j fun x=>(x.1,x.2.1,pw))=prs p:=by
 unfold prs
 rw[Array.toList_modify]
 exact mod_map (f:=fun x=>(x.1,x.2.1,pw)) (fun _=>rfl) _ _
structure Core(κ:KeyKind)(kd:SortKind)(a₀:Array Keyed)(lo:Nat)(st:SortSt):Prop where
 perm:(arrOf st).Perm a₀
 kind:kindOf st=kd
 failed:failedOf st=none
 runs:Runs κ (arrOf st) (prs (pendingOf st)) 0 lo
 le:lo<=a₀.size
theorem erase_set{l1 l2:List (Nat×Nat×Nat)}{x y v:Nat×Nat×Nat}:((l1++x :: y :: l2).set l1.length v).eraseIdx (l1.length+1)=l1++v :: l2:=by
 induction l1 with
 |nil=>rfl
 |cons a l ih=>rw[List.cons_append,List.length_cons,List.set_cons_succ,List.eraseIdx_cons_succ,ih];rfl
theorem merge_step{Q:Bool->SortSt->Prop}{lo i:Nat}(hO:LtOk κ kd prog w A s)(h0:KeysOf κ a₀)(C:Core κ kd a₀ lo st)(hi:i+1 <(pendingOf st).size)
  (h:∀ st',Core κ kd a₀ lo st'->(pendingOf st').size+1=(pendingOf st).size->(∀ k,lo<=k->(arrOf st')[k]?=(arrOf st)[k]?)->Q true st'):wpS (model prog w) A E s (mergeAt' i) Q st:=by
 obtain⟨c1,c2,c3,c4,c5⟩:=C
 generalize hp:pendingOf st=p at *
 have el:p.toList=p.toList.take i++p[i] :: p[i+1] :: p.toList.drop (i+2):=by
  have h1:i<p.toList.length:=by simp;lia
  have h2:i+1<p.toList.length:=by simp;omega
  conv=>lhs;rw[<- List.take_append_drop i p.toList,List.drop_eq_getElem_cons h1,List.drop_eq_getElem_cons h2]
  simp
 have ll:(p.toList.take i).length=i:=by rw[List.length_take];simp;lia
 have r0:=c4
 unfold prs at r0
 rw[el,List.map_append,List.map_cons,List.map_cons]at r0
 obtain⟨m,ra,b1,b2,b3,d1,d2,d3,rb⟩:=Runs.app.mp r0
 generalize hx:p[i]=x at *
 generalize hy:p[i+1]=y at *
 obtain⟨xb,xn,xp⟩:=x
 obtain⟨yb,yn,yp⟩:=y
 have b1:xb=m:=b1
 have d1:yb=m+xn:=d1
 subst b1
 subst d1
 have ex:p[i]?=some (xb,xn,xp):=by rw[Array.getElem?_eq_getElem (by lia),hx]
 have ey:p[i+1]?=some (xb+xn,yn,yp):=by rw[Array.getElem?_eq_getElem hi,hy]
 have lb:=rb.len
 have le2:xb+xn+yn<=lo:=by
  have:xb+(pr2 (xb,xn,xp)).2+(pr2 (xb+xn,yn,yp)).2=xb+xn+yn:=rfl
  lia
 refine mergeAt_ok (i:=i) (b:=xb) (n1:=xn) (n2:=yn) (pw:=xp) (pw2:=yp) hO h0 c2 c1 c3 (by rw[hp];exact ex) (by rw[hp];exact ey) (by lia) b2 d2 b3 d3 fun st' a1 a2 a3 a4 a5 a6=>?_
 rw[hp]at a3
 have e3:(pendingOf st').toList=p.toList.take i++(xb,xn+yn,xp) :: p.toList.drop (i+2):=by
  have e:=erase_set (l1:=p.toList.take i) (l2:=p.toList.drop (i+2)) (x:=(xb,xn,xp)) (y:=(xb+xn,yn,yp)) (v:=(xb,xn+yn,xp))
  rw[ll,<- el]at e
  rw[a3]
  unfold Array.eraseIdxIfInBounds
  rw[dif_pos (by rw[Array.size_setIfInBounds];exact hi),Array.toList_eraseIdx,Array.toList_setIfInBounds]
  exact e
 refine h st' ⟨a1,a5,a2,?_,c5⟩ ?_ fun k hk=>a6 k (.inr (by lia))
 ·unfold prs
  rw[e3,List.map_append,List.map_cons]
  refine Runs.app.mpr ⟨xb,ra.congr fun k _ hk=>a6 k (.inl hk),rfl,by show 0<xn+yn;have:0<xn:=b2;lia,a4,?_⟩
  show Runs κ (arrOf st') _ (xb+(xn+yn)) lo
  rw[<- Nat.add_assoc]
  exact rb.congr fun k hk _=>a6 k (.inr hk)
 ·have e4:=congrArg List.length e3
  have e5:=congrArg List.length el
  rw[List.length_append,List.length_cons]at e4
  rw[List.length_append,List.length_cons,List.length_cons]at e5
  simp only[Array.length_toList]at e4 e5
  lia
theorem minRun_pos:∀ (f n r:Nat),1<=n->1<=minRun' f n r
 | 0,n,r,h=>by show 1<=n+r;lia
 |f+1,n,r,h=>by
  rw[minRun'_succ]
  split
  ·lia
  ·exact minRun_pos f _ _ (by lia)
theorem Core.push{lo n z:Nat}(C:Core κ kd a₀ lo st)(h:SIn κ (arrOf st) lo n)(n0:0<n)(hn:lo+n<=a₀.size)(p:Array (Nat×Nat×Nat))(ep:prs p=prs (pendingOf st)):Core κ kd a₀ (lo+n) (setPending st (p.push (lo,n,z))):=by
 refine⟨C.perm,C.kind,C.failed,?_,hn⟩
 show Runs κ (arrOf st) (prs (p.push (lo,n,z))) 0 (lo+n)
 rw[prs_push,ep]
 exact Runs.app.mpr ⟨lo,C.runs,rfl,n0,h,rfl⟩
theorem runs_ok{Q:Unit->SortSt->Prop}(hO:LtOk κ kd prog w A s)(h0:KeysOf κ a₀)(hB:SB kd a₀ a₀ 0 #[] st)(h2:2<=a₀.size)
  (h:∀ st',(arrOf st').Perm a₀->failedOf st'=none->SIn κ (arrOf st') 0 a₀.size->Q () st'):wpS (model prog w) A E s sortRuns' Q st:=by
 rw[sortRuns'_eq]
 refine wpS_bind (wpS_get ?_)
 dsimp only
 simp only[hB.size]
 have r1:1<=minRun' a₀.size a₀.size 0:=minRun_pos _ _ _ (by lia)
 generalize hmr:minRun' a₀.size a₀.size 0=mr at r1 ⊢
 refine wpS_bind (wpS_mono (wpS_forRange
  (I:=fun x c st'=>∃ lo,c=(none,lo)/\x<=lo/\Core κ kd a₀ lo st')
  (Q:=fun c st'=>c=(none,a₀.size)/\Core κ kd a₀ a₀.size st') ?step ?fin ⟨0,rfl,Nat.le_refl _,hB.perm,hB.kind,hB.failed,by rw[hB.pend];rfl,Nat.zero_le _⟩) ?post)
 case fin =>
  rintro c st' ⟨lo,rfl,hx,C⟩
  have e:lo=a₀.size:=by have:=C.le;lia
  subst e
  exact⟨rfl,C⟩
 case step =>
  rintro x c st1 _ hx ⟨lo,rfl,xlo,C⟩
  dsimp only
  by_cases hlo:lo >= a₀.size
  ·rw[if_pos hlo]
   have e:lo=a₀.size:=by have:=C.le;lia
   subst e
   exact wpS_pure ⟨rfl,C⟩
  rw[if_neg hlo]
  refine wpS_bind (count_ok hO h0 (b:=arrOf st1) (pd:=pendingOf st1) (by lia) (by lia) ⟨C.perm,C.kind,C.failed,rfl,fun _ _=>rfl⟩ fun m st2 B2 m1 m2 S2=>?_)
  dsimp only
  have core:∀ st',SB kd a₀ (arrOf st1) lo (pendingOf st1) st'->Core κ kd a₀ lo st':=fun st' B=>⟨B.perm,B.kind,B.failed,by
   rw[B.pend]
   exact C.runs.congr fun k _ hk=>B.low k hk,C.le⟩
  by_cases hlt:m<mr
  ·rw[if_pos hlt]
   refine wpS_bind (wpS_lift (wpAny_rule ⟨rfl,wpS_bind (bin_ok hO h0 (by omega) (by omega) B2 S2 fun st3 B3 S3=>?_)⟩))
   refine wpS_if (fun z=>absurd z (by simp)) fun _=>?_
   have C3:=core st3 B3
   have g0:0<min (a₀.size-lo) mr:=by omega
   have g1:lo+min (a₀.size-lo) mr<=a₀.size:=by omega
   generalize min (a₀.size-lo) mr=n at S3 g0 g1 ⊢
   refine wpS_bind (wpS_get ?_)
   cases hb:(pendingOf st3).back? with
   |none =>
    dsimp only
    refine wpS_bind (wpS_modify (wpS_pure ?_))
    exact⟨lo+n,rfl,by lia,C3.push S3 g0 g1 _ rfl⟩
   |some z =>
    obtain⟨s1,n1,z3⟩:=z
    dsimp only
    generalize power' a₀.size (2 * s1+n1) (2 * s1+n1+n1+n) a₀.size=pw
    refine wpS_bind (wpS_mono (wpS_forRange (I:=fun x c st'=>c=(none,())/\Core κ kd a₀ lo st'/\SIn κ (arrOf st') lo n) (Q:=fun c st'=>c=(none,())/\Core κ kd a₀ lo st'/\SIn κ (arrOf st') lo n) ?a ?b ⟨rfl,C3,S3⟩) ?c)
    case b=>exact fun c st' h=>h
    case a =>
     rintro x' c st4 _ _ ⟨rfl,C4,S4⟩
     refine wpS_bind (wpS_get ?_)
     by_cases hs:(pendingOf st4).size > 1
     ·rw[if_pos hs]
      have hl:(pendingOf st4).size-2 <(pendingOf st4).size:=by omega
      rw[Array.getElem?_eq_getElem hl]
      generalize (pendingOf st4)[(pendingOf st4).size-2]=y
      obtain⟨y1,y2,older⟩:=y
      dsimp only
      by_cases ho:older<=pw
      ·rw[if_pos ho]
       exact wpS_pure ⟨rfl,C4,S4⟩
      ·rw[if_neg ho]
       refine wpS_bind (merge_step hO h0 C4 (by lia) fun st5 C5 _ k5=>?_)
       refine wpS_if (fun z=>absurd z (by simp)) fun _=>?_
       exact wpS_pure ⟨rfl,C5,S4.congr fun k hk _=>k5 k hk⟩
     ·rw[if_neg hs]
      exact wpS_pure ⟨rfl,C4,S4⟩
    case c =>
     rintro c st4 ⟨rfl,C4,S4⟩
     refine wpS_bind (wpS_modify (wpS_bind (wpS_modify (wpS_pure ?_))))
     exact⟨lo+n,rfl,by lia,C4.push S4 g0 g1 _ (prs_mod _ _ _)⟩
  ·rw[if_neg hlt]
   have C3:=core st2 B2
   have S3:=S2
   have g0:0<m:=m1
   have g1:lo+m<=a₀.size:=by lia
   refine wpS_bind (wpS_get ?_)
   cases hb:(pendingOf st2).back? with
   |none =>
    dsimp only
    refine wpS_bind (wpS_modify (wpS_pure ?_))
    exact⟨lo+m,rfl,by lia,C3.push S3 g0 g1 _ rfl⟩
   |some z =>
    obtain⟨s1,n1,z3⟩:=z
    dsimp only
    generalize power' a₀.size (2 * s1+n1) (2 * s1+n1+n1+m) a₀.size=pw
    refine wpS_bind (wpS_mono (wpS_forRange (I:=fun x c st'=>c=(none,())/\Core κ kd a₀ lo st'/\SIn κ (arrOf st') lo m) (Q:=fun c st'=>c=(none,())/\Core κ kd a₀ lo st'/\SIn κ (arrOf st') lo m) ?a ?b ⟨rfl,C3,S3⟩) ?c)
    case b=>exact fun c st' h=>h
    case a =>
     rintro x' c st4 _ _ ⟨rfl,C4,S4⟩
     refine wpS_bind (wpS_get ?_)
     by_cases hs:(pendingOf st4).size > 1
     ·rw[if_pos hs]
      have hl:(pendingOf st4).size-2 <(pendingOf st4).size:=by omega
      rw[Array.getElem?_eq_getElem hl]
      generalize (pendingOf st4)[(pendingOf st4).size-2]=y
      obtain⟨y1,y2,older⟩:=y
      dsimp only
      by_cases ho:older<=pw
      ·rw[if_pos ho]
       exact wpS_pure ⟨rfl,C4,S4⟩
      ·rw[if_neg ho]
       refine wpS_bind (merge_step hO h0 C4 (by omega) fun st5 C5 _ k5=>?_)
       refine wpS_if (fun z=>absurd z (by simp)) fun _=>?_
       exact wpS_pure ⟨rfl,C5,S4.congr fun k hk _=>k5 k hk⟩
     ·rw[if_neg hs]
      exact wpS_pure ⟨rfl,C4,S4⟩
    case c =>
     rintro c st4 ⟨rfl,C4,S4⟩
     refine wpS_bind (wpS_modify (wpS_bind (wpS_modify (wpS_pure ?_))))
     exact⟨lo+m,rfl,by lia,C4.push S4 g0 g1 _ (prs_mod _ _ _)⟩
 case post =>
  rintro c st1 ⟨rfl,C⟩
  dsimp only
  have l0:=C.runs.len
  rw[prs_len]at l0
  refine wpS_bind (wpS_mono (wpS_forRange (I:=fun x c st'=>c=(none,())/\Core κ kd a₀ a₀.size st'/\((pendingOf st').size+x<=a₀.size\/(pendingOf st').size<=1)) (Q:=fun c st'=>c=(none,())/\Core κ kd a₀ a₀.size st'/\(pendingOf st').size<=1) ?lstep ?lfin ⟨rfl,C,.inl (by omega)⟩) ?lpost)
  case lfin =>
   rintro c st' ⟨hc,C',z⟩
   refine⟨hc,C',?_⟩
   rcases z with z | z
   ·lia
   ·exact z
  case lpost =>
   rintro c st' ⟨rfl,C',z⟩
   refine wpS_pure (h _ C'.perm C'.failed ?_)
   have r:=C'.runs
   have e:=prs_len (pendingOf st')
   generalize prs (pendingOf st')=l at r e
   match l,r,e with
   |[],r,_=>have r:0=a₀.size:=r;lia
   |[y],r,_ =>
    obtain⟨r1,r2,r3,r4⟩:=r
    have r4:0+y.2=a₀.size:=r4
    rw[Nat.zero_add]at r4
    rw[r4]at r3
    exact r3
   | _ :: _ :: _,_,e=>simp at e;lia
  case lstep =>
   rintro x c st2 _ hx ⟨rfl,C2,z⟩
   refine wpS_bind (wpS_get ?_)
   by_cases hs:(pendingOf st2).size<=1
   ·rw[if_pos hs]
    exact wpS_pure ⟨rfl,C2,hs⟩
   ·rw[if_neg hs]
    have stp:∀ i,i+1 <(pendingOf st2).size->wpS (model prog w) A E s (mergeAt' i) (fun r st'=>r=true/\Core κ kd a₀ a₀.size st'/\(pendingOf st').size+1=(pendingOf st2).size) st2:=fun i hi=>merge_step hO h0 C2 hi fun st' C' e _=>⟨rfl,C',e⟩
    refine wpS_bind (wpS_mono (stp _ ?_) fun r st3 hr=>?_)
    ·have:∀ (c:Prop) [Decidable c],(if c then(pendingOf st2).size-2-1 else(pendingOf st2).size-2)+1 <(pendingOf st2).size:=fun c _=>by split <;> omega
     exact this _
    ·obtain⟨rfl,C3,e⟩:=hr
     refine wpS_if (fun z=>absurd z (by simp)) fun _=>?_
     refine wpS_pure ⟨rfl,C3,?_⟩
     rcases z with z | z
     ·exact .inl (by lia)
     ·exact absurd z hs
end
open PySem PySem.W PyProof.Rows
noncomputable def RawD(d:Addr)(ks:List Value)(ep:Nat)(g:Heap):Prop:=∃ ob en,g.get? d=some ob/\ob.ExactDict/\ob.data = .dict en ep/\en.toList.map (fun r=>r.key)=ks
section
variable{d it:Addr}{ks:List Value}{ep i:Nat}{g g':Heap}{prog:Program}{w:World}{A:Around}{E:Value->Shared->Prop}{s:Shared}
theorem RawD.to(x:RawD d ks ep g)(k:∀ u,g.get? d=some u->g'.get? d=some u):RawD d ks ep g':=by
 obtain⟨ob,en,a,r⟩:=x
 exact⟨ob,en,k _ a,r⟩
theorem RawD.ty(x:RawD d ks ep s.heap):s.TypeIs (.ref d) "dict":=by
 obtain⟨ob,en,a,c,r⟩:=x
 exact⟨ob,a,c.1⟩
theorem RawD.lt(x:RawD d ks ep g):d<g.objs.size:=by
 obtain⟨ob,en,a,c,r⟩:=x
 exact Heap.lt_size a
theorem rawIter{Q:Value->Shared->Prop}(nd:(d == sysModules)=false)(x:RawD d ks ep s.heap)
  (q:Q (.ref s.heap.objs.size) { s with heap:=s.heap.push { cls:=.type "dict_keyiterator",data:=.fields #[.ref d,.int 0 0,.int ks.length 0,.int ep 0] } }) :
  wpAny (model prog w) A (pyIter (.ref d)) Q E s:=by
 have ty:=x.ty
 obtain⟨ob,en,a,c,dt,ke⟩:=x
 have len:en.size=ks.length:=by rw[<- ke];simp
 refine wpAny_pyIter_slot ty F.slot_dict_iter (wpAny_call_entry F.slot_dict_iter ty F.entry_dict_iter ?_ (F.args_dict_iter_1 _))
 unfold Builtin.«dict.__iter__»;refine wpAny_bind ?_
 unfold Builtin.Dict.dictSlotNone;refine wpAny_bind (wpAny_notOrdered_dict ty ?_)
 show wpAny _ _ (pure (Value.ref d)) _ _ s;refine wpAny_pure ?_
 show wpAny _ _ (Builtin.Dict.showsAll d >>= _) _ _ s;unfold Builtin.Dict.showsAll
 rw[if_neg (fun e=>Bool.false_ne_true (nd.symm.trans e))];refine wpAny_bind (wpAny_pure (wpAny_bind (wpAny_dictEntries a dt (wpAny_bind (wpAny_dictEpoch a dt ?_)))))
 refine wpAny_bind (wpAny_newObj_type (wpAny_pure ⟨_,rfl,"dict_keyiterator",_,⟨_,Heap.get?_push_size _ rfl,rfl⟩,F.slot_dict_keyiterator_next.lookup,?_⟩));simpa[rawInt,len]using q
theorem rawItem{v:Value}{Q:Option Value->Shared->Prop}(hI:s.heap.IsKeyIter it d i ks.length ep)(x:RawD d ks ep s.heap)(hv:ks[i]?=some v)
  (q:∀ g',g'.IsKeyIter it d (i+1) ks.length ep->Heap.SameBut it s.heap g'->Q (some v) { s with heap:=g' }):wpAny (model prog w) A (pyNext (.ref it)) Q E s:=by
 obtain⟨io,a0,c0,d0⟩:=id hI
 obtain⟨ob,en,a,c,dt,ke⟩:=x
 have len:en.size=ks.length:=by rw[<- ke];simp
 unfold pyNext;refine wpAny_bind (wpAny_attempt (wpAny_callSpecial?_slot (name:=Str.ofString "__next__") hI.typeIs F.slot_dict_keyiterator_next (wpAny_call_entry F.slot_dict_keyiterator_next hI.typeIs F.entry_dict_keyiterator_next ?_ (F.args_dict_keyiterator_next_1 _))))
 refine wpAny_bind (wpAny_pure (wpAny_bind (wpAny_bind ?_)))
 first | refine wpAny_bind (wpAny_typeNameOfWhole_keyiter hI.typeIs (wpAny_pure ?_)) | refine wpAny_bind (wpAny_typeNameOf_keyiter hI.typeIs (wpAny_pure ?_))
 refine wpAny_bind (wpAny_fieldsOf a0 d0 ?_);have own:Builtin.Dict_items.ownsTuple "dict_keyiterator" = false:=by decide
 simp only[own,Bool.false_eq_true,if_false];show wpAny _ _ (if(Value.ref d == Value.none)=true then _ else _) _ _ s
 rw[if_neg (show ¬((Value.ref d == Value.none)=true)from Bool.false_ne_true)];refine wpAny_bind (wpAny_pure (wpAny_bind (wpAny_dictEntries a dt ?_)))
 rw[if_neg (by rw[len];simp)];refine wpAny_bind (wpAny_pure (wpAny_bind (wpAny_dictEpoch a dt ?_)))
 rw[if_neg (by simp)];refine wpAny_pure ?_
 have il:i<en.size:=by rw[len];exact(List.getElem?_eq_some_iff.mp hv).1
 have iv:en[i].key=v:=by
  have z:(en.toList.map (fun r=>r.key))[i]?=some en[i].key:=by rw[List.getElem?_map,Array.getElem?_toList,Array.getElem?_eq_getElem il];rfl
  rw[ke,hv]at z
  exact(Option.some.inj z).symm
 simp only[show ¬((i:Int)<0)from by lia,if_false,Int.toNat_natCast,Array.getElem?_eq_getElem il];refine wpAny_bind ?_
 first | refine wpAny_bind (wpAny_typeNameOfWhole_keyiter hI.typeIs (wpAny_pure ?_)) | refine wpAny_bind (wpAny_typeNameOf_keyiter hI.typeIs (wpAny_pure ?_))
 refine wpAny_bind (wpAny_isOneOf_keyiter hI.typeIs ?_);show wpAny _ _ (setField (.ref it) 1 (rawInt ((i:Int)+1)) >>= _) _ _ s
 refine wpAny_bind (wpAny_setField a0 d0 (by simp) ?_)
 have hI':(s.heap.update it (Obj.mapFields (·.setIfInBounds 1 (rawInt ((i:Int)+1))))).IsKeyIter it d (i+1) ks.length ep:=⟨_,Heap.get?_update_self _ a0 (Obj.isFreed_of_fields (Obj.data_mapFields d0 _)),(Obj.cls_mapFields ..).trans c0,by rw[Obj.data_mapFields d0];simp[rawInt]⟩
 refine wpAny_bind (wpAny_holding (wpAny_bind (wpAny_isOneOf_keyiter (s:={ s with heap:=s.heap.update it (Obj.mapFields (·.setIfInBounds 1 (rawInt ((i:Int)+1)))) }) hI'.typeIs ?_)))
 show wpAny _ _ (pure en[i].key) _ _ _;rw[iv]
 exact wpAny_pure (wpAny_pure ⟨_,rfl,wpAny_pure (q _ hI' (Heap.SameBut.update ..))⟩)
theorem rawEnd{Q:Option Value->Shared->Prop}(hh:A.handled=none)(hI:s.heap.IsKeyIter it d i ks.length ep)(x:RawD d ks ep s.heap)(hv:ks.length<=i)
  (q:∀ g',Heap.ExtBut it s.heap g'->Q none { s with heap:=g' }):wpAny (model prog w) A (pyNext (.ref it)) Q E s:=by
 obtain⟨io,a0,c0,d0⟩:=id hI
 obtain⟨ob,en,a,c,dt,ke⟩:=x
 have len:en.size=ks.length:=by rw[<- ke];simp
 unfold pyNext;refine wpAny_bind (wpAny_attempt (wpAny_callSpecial?_slot (name:=Str.ofString "__next__") hI.typeIs F.slot_dict_keyiterator_next (wpAny_call_entry F.slot_dict_keyiterator_next hI.typeIs F.entry_dict_keyiterator_next ?_ (F.args_dict_keyiterator_next_1 _))))
 refine wpAny_bind (wpAny_pure (wpAny_bind (wpAny_bind ?_)))
 first | refine wpAny_bind (wpAny_typeNameOfWhole_keyiter hI.typeIs (wpAny_pure ?_)) | refine wpAny_bind (wpAny_typeNameOf_keyiter hI.typeIs (wpAny_pure ?_))
 refine wpAny_bind (wpAny_fieldsOf a0 d0 ?_);have own:Builtin.Dict_items.ownsTuple "dict_keyiterator" = false:=by decide
 simp only[own,Bool.false_eq_true,if_false];show wpAny _ _ (if(Value.ref d == Value.none)=true then _ else _) _ _ s
 rw[if_neg (show ¬((Value.ref d == Value.none)=true)from Bool.false_ne_true)];refine wpAny_bind (wpAny_pure (wpAny_bind (wpAny_dictEntries a dt ?_)))
 rw[if_neg (by rw[len];simp)];refine wpAny_bind (wpAny_pure (wpAny_bind (wpAny_dictEpoch a dt ?_)))
 rw[if_neg (by simp)];refine wpAny_pure ?_
 have il:en.size<=i:=by rw[len];exact hv
 simp only[show ¬((i:Int)<0)from by lia,if_false,Int.toNat_natCast,Array.getElem?_eq_none il];refine wpAny_bind ?_
 first | refine wpAny_bind (wpAny_typeNameOfWhole_keyiter hI.typeIs (wpAny_pure ?_)) | refine wpAny_bind (wpAny_typeNameOf_keyiter hI.typeIs (wpAny_pure ?_))
 show wpAny _ _ (setField (.ref it) 0 .none >>= _) _ _ s;refine wpAny_bind (wpAny_setField a0 d0 (by simp) ?_)
 show wpAny _ _ (newExc (.type "StopIteration") [] >>= _) _ _ _;refine wpAny_bind ?_
 simp only[newExc,newTuple];refine wpAny_bind (wpAny_newObj_type ?_ (by size_fits))
 refine wpAny_bind (m:=firstArgMember _ _) (wpAny_of_eq (a:=Value.none) (by first | rfl |(simp only[firstArgMember];rfl)) (wpAny_newObj_type ?_ (by size_fits)))
 simp only[raiseNew];refine wpAny_bind (wpAny_handled ?_)
 rw[show A.in1.handled=none from hh];refine wpAny_bind (wpAny_pure (wpAny_throw ?_))
 refine wpAny_bind (wpAny_isInstance (T:="StopIteration") (b:=true) ⟨_,Heap.get?_push_size _ rfl,rfl⟩ isSubtype_stop ?_)
 exact wpAny_pure (q _ (((Heap.SameBut.update ..).extBut.push _).push _))
theorem rawWalks(hh:A.handled=none)(I d:Addr)(ne:d≠I)(ks:List Value)(ep:Nat) :
  Walks prog w A I [I,d] [I] ks.length (fun i v=>ks[i]?=some v) (fun i g=>g.IsKeyIter I d i ks.length ep/\RawD d ks ep g)where
 sub:=fun b z=>by simp at z;simp[z]
 frame:=fun _ _ _ st k=>⟨st.1.at fun o e=>k I (by simp) o e,st.2.to fun o e=>k d (by simp) o e⟩
 item:=fun i s Q E hi st hQ=>by
  obtain⟨v,hx⟩:∃ p,ks[i]?=some p:=⟨ks[i],by simp[hi]⟩
  refine rawItem st.1 st.2 hx fun g' it' sb=>?_
  exact hQ v g' s.toks hx ⟨it',st.2.to fun o e=>sb.extBut d o ne e⟩ fun b o z e=>sb.extBut b o (fun h=>z (by simp[h])) e
 done:=fun s Q E st hQ=>rawEnd hh st.1 st.2 (Nat.le_refl _) fun g' e'=>hQ g' s.toks fun b o z e=>e' b o (fun h=>z (by simp[h])) e
 self:=fun _ _ _ _ st hQ=>wpAny_pyIter_keyiter st.1 hQ
theorem rawSrc(nd:(d == sysModules)=false):KdlSrc prog w "dict" d d ks.length (fun i v=>ks[i]?=some v) (RawD d ks ep)where
 type:=fun _ x=>x.ty
 there:=fun _ x=>⟨x.lt,x.lt⟩
 keep:=fun _ _ x k=>x.to fun o e=>k d (.inl rfl) o e
 notList:=by decide
 notTuple:=by decide
 hint:=fun _ _ _ _ x q=>kdl_hint_dict x.ty q
 iter:=fun _ _ hh x=>⟨_,_,(fun _ _ q=>rawIter nd x q),rawWalks hh _ d (Nat.ne_of_lt x.lt) ks ep,⟨⟨_,Heap.get?_push_size _ rfl,rfl,rfl⟩,x.to fun o e=>Heap.get?_push_of_some _ e⟩⟩
end
open PySem PySem.W PyProof.Rows
noncomputable def lexlt:List Int->List Int->Bool
 | _,[]=>false
 |[],_ :: _=>true
 |a :: x,b :: y=>decide (a<b) ||(decide (a=b) && lexlt x y)
theorem lexlt_irrefl:∀ x,lexlt x x=false
 |[]=>rfl
 |a :: x=>by simp[lexlt,lexlt_irrefl x]
theorem lexlt_trans:∀ x y z,lexlt x y=true->lexlt y z=true->lexlt x z=true
 | _,_,[],_,h=>by simp[lexlt]at h
 | _,[],_ :: _,h,_=>by simp[lexlt]at h
 |[],_ :: _,_ :: _,_,_=>rfl
 |a :: x,b :: y,c :: z,h,k=>by
  simp only[lexlt,Bool.or_eq_true,Bool.and_eq_true,decide_eq_true_eq]at h k ⊢
  rcases h with h |⟨h,h'⟩ <;> rcases k with k |⟨k,k'⟩
  ·left;lia
  ·left;lia
  ·left;lia
  ·right;exact⟨by lia,lexlt_trans x y z h' k'⟩
theorem lexlt_neg:∀ x y z,lexlt x z=true->lexlt x y=true\/lexlt y z=true
 | _,_,[],h=>by simp[lexlt]at h
 | _,[],_ :: _,_=>.inr rfl
 |[],_ :: _,_ :: _,_=>.inl rfl
 |a :: x,b :: y,c :: z,h=>by
  simp only[lexlt,Bool.or_eq_true,Bool.and_eq_true,decide_eq_true_eq]at h ⊢
  rcases h with h |⟨h,h'⟩
  ·by_cases e:a<b
   ·exact .inl (.inl e)
   ·exact .inr (.inl (by lia))
  ·rcases lexlt_neg x y z h' with q | q
   ·by_cases e:a<b
    ·exact .inl (.inl e)
    ·by_cases e':a=b
     ·exact .inl (.inr ⟨e',q⟩)
     ·exact .inr (.inl (by lia))
   ·by_cases e:a<b
    ·exact .inl (.inl e)
    ·by_cases e':b=c
     ·exact .inr (.inr ⟨e',q⟩)
     ·exact .inr (.inl (by lia))
theorem lexlt_total:∀ x y,lexlt x y=false->lexlt y x=false->x=y
 |[],[],_,_=>rfl
 |[],_ :: _,h,_=>by simp[lexlt]at h
 | _ :: _,[],_,h=>by simp[lexlt]at h
 |a :: x,b :: y,h,k=>by
  simp only[lexlt,Bool.or_eq_false_iff,Bool.and_eq_false_iff,decide_eq_false_iff_not]at h k
  have e:a=b:=by lia
  subst e
  rw[lexlt_total x y (by simpa using h.2) (by simpa using k.2)]
noncomputable abbrev IntsV(ns:List Int)(us:List Value):Prop:=Paired (fun(i:Int) (u:Value)=>∃ t,u=Value.int i t) ns us
theorem IntsV.inj:∀ {ns ms:List Int}{us:List Value},IntsV ns us->IntsV ms us->ns=ms:=by
 intro ns ms us h
 induction h generalizing ms with
 |nil=>intro h';cases h';rfl
 |cons h r ih =>
  intro h'
  cases h' with
  |cons h2 r' =>
   obtain⟨t,e⟩:=h
   obtain⟨t',e'⟩:=h2
   rw[e]at e'
   cases e'
   rw[ih r']
noncomputable def TupI(g:Heap)(v:Value)(ns:List Int):Prop:=∃ a ob its n,v=Value.ref a/\g.get? a=some ob/\ob.cls = .type "tuple"/\ob.data = .seq its n/\IntsV ns its.toList
theorem TupI.inj{g:Heap}{v:Value}{ns ms:List Int}(x:TupI g v ns)(y:TupI g v ms):ns=ms:=by
 obtain⟨a,ob,its,n,rfl,e,_,d,p⟩:=x
 obtain⟨a',ob',its',n',e',q,_,d',p'⟩:=y
 cases e'
 rw[e]at q
 cases q
 rw[d]at d'
 cases d'
 exact p.inj p'
theorem TupI.to{g g':Heap}{v:Value}{ns:List Int}(x:TupI g v ns)(k:∀ b u,v = .ref b->g.get? b=some u->g'.get? b=some u):TupI g' v ns:=by
 obtain⟨a,ob,its,n,rfl,e,r⟩:=x
 exact⟨a,ob,its,n,rfl,k a ob rfl e,r⟩
open Classical in
noncomputable def κT(g:Heap):KeyKind where
 α:=List Int
 blt:=lexlt
 irrefl:=lexlt_irrefl
 trans:=lexlt_trans
 negTrans:=lexlt_neg
 total:=lexlt_total
 keyOf v:=if h:∃ ns,TupI g v ns then some h.choose else none
 dflt:=[]
open Classical in
theorem κT_key{g:Heap}{v:Value}{ns:List Int}(x:TupI g v ns):(κT g).keyOf v=some ns:=by
 have h:∃ ns,TupI g v ns:=⟨ns,x⟩
 show(if h:∃ ns,TupI g v ns then some h.choose else none)=some ns
 rw[dif_pos h,h.choose_spec.inj x]
open Classical in
theorem κT_of{g:Heap}{v:Value}{ns:List Int}(e:(κT g).keyOf v=some ns):TupI g v ns:=by
 have e':(if h:∃ ns,TupI g v ns then some h.choose else none)=some ns:=e
 by_cases h:∃ ns,TupI g v ns
 ·rw[dif_pos h]at e'
  rw[<- Option.some.inj e']
  exact h.choose_spec
 ·rw[dif_neg h]at e'
  cases e'
section
variable{prog:Program}{w:World}{A:Around}{E:Value->Shared->Prop}{s:Shared}
theorem lex_ok{b fin:Bool}{Q:Bool->Shared->Prop}:∀ {ns ms:List Int}{us vs:List Value} (i:Nat),IntsV ns us->IntsV ms vs->fin=decide (ns.length<ms.length)->Q (lexlt ns ms) s->KatLex prog w A b fin Q (us.zip vs) i s:=by
 intro ns ms us vs i h
 induction h generalizing ms vs i with
 |nil =>
  intro h' e q
  rw[e]
  cases h' with
  |nil=>exact kat_nil q
  |cons _ _=>exact kat_nil (show Q (decide (0<_+1)) s by simpa[lexlt]using q)
 | @cons n u ns us h r ih =>
  intro h' e q
  cases h' with
  |nil=>rw[e];exact kat_nil (by simpa[lexlt]using q)
  | @cons m v ms vs h2 r' =>
   obtain⟨t,e1⟩:=h
   obtain⟨t',e2⟩:=h2
   subst e1 e2
   refine kat_cons (wpAny_eqBool_int (kat_go (fun z=>kat_yes ?_) fun z=>kat_no ?_))
   ·have z':n=m:=by simpa using z
    refine ih (i+1) r' (by rw[e];simp) ?_
    have l:lexlt (n :: ns) (m :: ms)=lexlt ns ms:=by simp[lexlt,z']
    rw[<- l]
    exact q
   ·have z':n≠m:=by simpa using z
    have l:lexlt (n :: ns) (m :: ms)=decide (n<m):=by simp[lexlt,z']
    rw[l]at q
    cases hb:(b && i == 0)with
    |true=>exact oneLt_int q
    |false=>exact kat_one _ _ (lt_int q)
theorem ltT_ok{h₁:Heap}{b:Bool}(kp:∀ v ns,TupI h₁ v ns->TupI s.heap v ns):LtOk (κT h₁) (tuples' b) prog w A s:=by
 intro E x y ka kb Q st hk ha hb q
 obtain⟨a,ob,its,n,e1,g1,_,d1,p1⟩:=kp _ _ (κT_of ha)
 obtain⟨a',ob',its',n',e2,g2,_,d2,p2⟩:=kp _ _ (κT_of hb)
 rw[lt'_eq]
 refine wpS_bind (wpS_get ?_)
 rw[hk,e1,e2]
 have l1:ka.length=its.size:=by rw[p1.length];simp
 have l2:kb.length=its'.size:=by rw[p2.length];simp
 refine wpS_bind (wpS_lift (wpAny_attempt (kat_lt g1 d1 g2 d2 (lex_ok (ns:=ka) (ms:=kb) 0 p1 p2 (by rw[l1,l2]) ⟨rfl,?_⟩))))
 exact wpS_pure q
theorem map2_pairs:∀ {l:List Keyed},(∀ p∈l,p.1=p.2)->(l.map (·.2)).zip (l.map (·.2))=l
 |[],_=>rfl
 |p :: l,h=>by
  have e:p.1=p.2:=h p (List.mem_cons_self ..)
  show(p.2,p.2) :: (l.map (·.2)).zip (l.map (·.2))=_
  rw[map2_pairs fun q hq=>h q (List.mem_cons_of_mem _ hq)]
  congr 1
  exact Prod.ext e.symm rfl
theorem mem_zip_self:∀ {l:List Value}{p:Keyed},p∈l.zip l->p.1=p.2/\p.2∈l
 |[],p,h=>by simp at h
 |v :: l,p,h=>by
  rcases List.mem_cons.mp (show p∈(v,v) :: l.zip l from h)with e | e
  ·rw[e];exact⟨rfl,List.mem_cons_self ..⟩
  ·exact⟨(mem_zip_self e).1,List.mem_cons_of_mem _ (mem_zip_self e).2⟩
theorem map2_zip:∀ {l:List Value},(l.zip l).map (·.2)=l
 |[]=>rfl
 |v :: l=>by show v :: (l.zip l).map (·.2)=_;rw[map2_zip]
theorem back_pairs{xs:Array Keyed}{vs:List Value}(hp:xs.Perm (pairsOf vs)):xs=pairsOf (xs.toList.map (·.2))/\(xs.toList.map (·.2)).Perm vs:=by
 have hp':xs.toList.Perm (vs.zip vs):=by
  have:=Array.perm_iff_toList_perm.mp hp
  rw[pairsOf_toList]at this
  exact this
 refine⟨?_,?_⟩
 ·apply Array.ext'
  rw[pairsOf_toList,map2_pairs fun p hq=>(mem_zip_self (hp'.mem_iff.mp hq)).1]
 ·have:=hp'.map (·.2)
  rw[map2_zip]at this
  exact this
theorem sort_gen{κ:KeyKind}{kd:SortKind}{a:Addr}{vs:List Value}{n:Nat}{P:Fin->Shared->Prop}(ho:s.heap.get? a=some (seqObj "list" vs.toArray n))(h0:KeysOf κ (pairsOf vs))(hl:vs.length<5000)
  (hk:2<=vs.length->∀ g:Heap,(∀ b u,b≠a->s.heap.get? b=some u->g.get? b=some u)->LtOk κ kd prog w A { s with heap:=g }/\∀ R:SortKind->Shared->Prop,R kd { s with heap:=g }->wpAny (model prog w) A (keyKind' vs.toArray) R E { s with heap:=g })
  (h:∀ (ws:List Value) (g:Heap) (c:Nat),ws.Perm vs->SortedToK κ (pairsOf ws) ws.length->(∀ b u,b≠a->s.heap.get? b=some u->g.get? b=some u)->g.get? a=some (seqObj "list" ws.toArray c)->P (.done (.ret .none)) { s with heap:=g }) :
  wpAny (model prog w) A (Builtin.«list.sort» ⟨[.ref a],[]⟩) P E s:=by
 have lt0:a<s.heap.objs.size:=Heap.lt_size ho
 have k1:∀ b u,b≠a->s.heap.get? b=some u->(s.heap.update a (Obj.mapSeq fun _=>#[])).get? b=some u:=fun b u ne e=>by rw[Heap.get?_update_ne _ _ _ _ ne];exact e
 obtain⟨c1,g1⟩:∃ c1,(s.heap.update a (Obj.mapSeq fun _=>#[])).get? a=some (seqObj "list" #[] c1):=⟨_,get?_update_seq ho _⟩
 generalize hg1:s.heap.update a (Obj.mapSeq fun _=>#[])=G1 at k1 g1
 have k2:∀ b u,b≠a->s.heap.get? b=some u->((G1.push (seqObj "tuple" vs.toArray 0)).push (seqObj "list" #[] 0)).get? b=some u:=fun b u ne e=>Heap.get?_push_of_some _ (Heap.get?_push_of_some _ (k1 b u ne e))
 have g2:((G1.push (seqObj "tuple" vs.toArray 0)).push (seqObj "list" #[] 0)).get? a=some (seqObj "list" #[] c1):=Heap.get?_push_of_some _ (Heap.get?_push_of_some _ g1)
 rw[list_sort_plain]
 refine wpAny_bind (listItems_at ho rfl (wpAny_bind (listUpdate_at ho rfl ?_ (hsz:=by rw[List.size_toArray,sizeLine_eq];lia))))
 rw[hg1]
 refine wpAny_bind (seqEpoch_at g1 rfl (wpAny_bind (wpAny_newTuple ?_ (by show vs.length<=_;rw[sizeLine_eq];lia))))
 refine wpAny_bind (wpAny_newList (wpAny_holding ?_))
 show wpAny (model prog w) A _ P E { s with heap:=(G1.push (seqObj "tuple" vs.toArray 0)).push (seqObj "list" #[] 0) }
 generalize (G1.push (seqObj "tuple" vs.toArray 0)).push (seqObj "list" #[] 0)=G2 at k2 g2
 dsimp only
 have fin:∀ st':SortSt,(arrOf st').Perm (pairsOf vs)->SortedToK κ (arrOf st') (pairsOf vs).size->P (.done (.ret .none)) { s with heap:=G2.update a (Obj.mapSeq fun _=>(arrOf st').map (·.2)) }:=fun st' hp hs=>by
  obtain⟨e,p⟩:=back_pairs hp
  obtain⟨c3,g3⟩:∃ c3,(G2.update a (Obj.mapSeq fun _=>(arrOf st').map (·.2))).get? a=some (seqObj "list" ((arrOf st').map (·.2)) c3):=⟨_,get?_update_seq g2 _⟩
  refine h ((arrOf st').toList.map (·.2)) _ c3 p ?_ (fun b u ne z=>by rw[Heap.get?_update_ne _ _ _ _ ne];exact k2 b u ne z) ?_
  ·rw[<- e]
   have l2:(pairsOf vs).size=((arrOf st').toList.map (·.2)).length:=by rw[pairsOf_size,p.length_eq]
   rw[<- l2]
   exact hs
  ·rw[g3]
   congr 2
   apply Array.ext'
   simp
 by_cases h2:vs.toArray.size<2
 ·rw[if_pos h2,if_pos h2]
  refine wpAny_bind (wpAny_pure ?_)
  rw[StateT.run_pure]
  refine wpAny_bind (wpAny_pure ?_)
  dsimp only
  refine wpAny_bind (seqEpoch_at g2 rfl (wpAny_bind (listUpdate_at g2 rfl ?_ (hsz2:=by rw[Array.size_map];show(pairsOf vs).size<=_;rw[pairsOf_size,sizeLine_eq];lia))))
  simp only[bne_self_eq_false,Bool.false_eq_true,if_false]
  refine wpAny_pure (fin (SortSt.mk' general' (vs.toArray.zip vs.toArray) #[] 7 none) (Array.Perm.refl _) fun i j ij jl=>?_)
  have e:i=j:=by
   rw[pairsOf_size]at jl
   simp only[List.size_toArray]at h2
   lia
  rw[e]
  exact KeyOrd.kle_refl _
 ·have h2':2<=vs.length:=by simpa using h2
  obtain⟨lo,kk⟩:=hk h2' G2 k2
  rw[if_neg h2,if_neg h2]
  refine wpAny_bind (kk _ ?_)
  refine wpAny_bind (wpAny_mono (runs_ok (κ:=κ) (kd:=kd) (a₀:=pairsOf vs) (st:=SortSt.mk' kd (vs.toArray.zip vs.toArray) #[] 7 none) (Q:=fun _ st'=>(arrOf st').Perm (pairsOf vs)/\failedOf st'=none/\SortedToK κ (arrOf st') (pairsOf vs).size)
   lo h0 ⟨Array.Perm.refl _,rfl,rfl,rfl,fun k z=>absurd z (Nat.not_lt_zero _)⟩ (by rw[pairsOf_size];exact h2') fun st' a1 a2 a3=>⟨a1,a2,fun i j ij jl=>by
    have:=a3 i j ij jl
    rw[Nat.zero_add,Nat.zero_add]at this
    exact this⟩) ?_ fun _ _ e=>e)
  rintro⟨⟨⟩,st'⟩ s' ⟨rfl,hp,hf,hs⟩
  dsimp only
  refine wpAny_bind (seqEpoch_at g2 rfl (wpAny_bind (listUpdate_at g2 rfl ?_ (hsz2:=by refine Nat.le_trans (Nat.le_of_eq ((Array.size_map ..).trans (hp.size_eq.trans (pairsOf_size _)))) ?_;rw[sizeLine_eq];lia))))
  rw[hf]
  simp only[bne_self_eq_false,Bool.false_eq_true,if_false]
  exact wpAny_pure (fin st' hp hs)
theorem sort_at{κ:KeyKind}{kd:SortKind}{a:Addr}{vs:List Value}{n:Nat}{P:Fin->Shared->Prop}(ho:s.heap.get? a=some (seqObj "list" vs.toArray n))(h0:KeysOf κ (pairsOf vs))(hl:vs.length<128)
  (hk:2<=vs.length->∀ g:Heap,(∀ b u,b≠a->s.heap.get? b=some u->g.get? b=some u)->LtOk κ kd prog w A { s with heap:=g }/\∀ R:SortKind->Shared->Prop,R kd { s with heap:=g }->wpAny (model prog w) A (keyKind' vs.toArray) R E { s with heap:=g })
  (h:∀ (ws:List Value) (g:Heap) (c:Nat),ws.Perm vs->SortedToK κ (pairsOf ws) ws.length->(∀ b u,b≠a->s.heap.get? b=some u->g.get? b=some u)->g.get? a=some (seqObj "list" ws.toArray c)->P (.done (.ret .none)) { s with heap:=g }) :
  wpAny (model prog w) A (Builtin.«list.sort» ⟨[.ref a],[]⟩) P E s:=sort_gen ho h0 (Nat.lt_of_lt_of_le hl (by decide)) hk h
end
end Srt
namespace L2
open PySem PySem.W PyProof.Rows Srt
theorem intsV_of:∀ {ns:List Int}{us:List Value},Vals (ns.map V.int) us->IntsV ns us
 |[],_,.nil=>.nil
 |n :: ns,_,.cons r t=>.cons r (intsV_of t)
noncomputable def keyA(g:Heap)(a:Addr):List Int:=(show Option (List Int)from(κT g).keyOf (.ref a)).getD []
theorem keyA_eq{g:Heap}{a:Addr}{k:List Int}(x:TupI g (.ref a) k):keyA g a=k:=by
 unfold keyA
 rw[κT_key x]
 rfl
noncomputable def unref:Value->Addr
 | .ref a=>a
 | _=>(0:Nat)
section
variable{X:Cx}{pins:List (Addr×Obj)}{σ:St}{H:Hp}{s:Shared}
theorem tupI_of(I:Inv X pins σ H s){a:Addr}{ns:List Int}(h:H a=some (.tup (ns.map V.int))):TupI s.heap (.ref a) ns:=by
 obtain⟨its,r,⟨o,e,c,n,d⟩,_⟩:=I.tuple (SqT.of h)
 exact⟨a,o,_,n,rfl,e,c,d,intsV_of r⟩
theorem looks_int{M:Model}{h:Heap}{i:Int}{t:Tok}:Looks M h (typeOf (.int i t)) (Value.type "int"):=Looks.now
theorem tups_of{g:Heap}:∀ {as:List Addr}{ks:List (List Int)},Paired (fun a k=>TupI g (.ref a) k/\k≠[]) as ks->∃ fs:List Value,KatTups g (as.map .ref) fs/\fs.length=as.length/\∀ v∈fs,∃ i t,v=Value.int i t:=by
 intro as ks h
 induction h with
 |nil=>exact⟨[],trivial,rfl,fun _ h=>nomatch h⟩
 | @cons a k as ks h r ih =>
  obtain⟨⟨a',o,its,n,e,g1,c,d,p⟩,ne⟩:=h
  cases e
  obtain⟨fs,t,l,z⟩:=ih
  cases k with
  |nil=>exact absurd rfl ne
  |cons i k =>
   obtain⟨il⟩:=its
   cases p with
   |cons r1 r2 =>
    obtain⟨tk,rfl⟩:=r1
    refine⟨_ :: fs,KatTups.cons g1 c d rfl t,by simp[l],fun v hv=>?_⟩
    rcases List.mem_cons.mp hv with e | e
    ·exact⟨i,tk,e⟩
    ·exact z v e
theorem sort_new{L:Addr}{A:Around}{E:Value->Shared->Prop}{as:List Addr}{ks:List (List Int)}{P:Fin->Shared->Prop}(ho:s.heap.get? L=some (seqObj "list" (as.map Value.ref).toArray 0))(hT:Paired (fun a k=>TupI s.heap (.ref a) k/\k≠[]) as ks)(hl:as.length<128)
  (h:∀ (bs:List Addr) (ns:List (List Int)) (g:Heap) (c:Nat),bs.Perm as->ns.Perm ks->ns.Pairwise (fun x y=>lexlt y x=false)->Paired (fun a k=>TupI s.heap (.ref a) k) bs ns->(∀ b u,b≠L->s.heap.get? b=some u->g.get? b=some u)->g.get? L=some (seqObj "list" (bs.map Value.ref).toArray c) ->
   P (.done (.ret .none)) { s with heap:=g }):wpAny (model X.prog X.w) A (Builtin.«list.sort» ⟨[.ref L],[]⟩) P E s:=by
 have neL:∀ v ns,TupI s.heap v ns->v≠.ref L:=fun v ns x e=>by
  obtain⟨a,o,its,n,rfl,g1,c,_⟩:=x
  cases e
  rw[ho]at g1
  cases g1
  exact absurd (show Value.type "list" = Value.type "tuple" from c) (by decide)
 have lenk:as.length=ks.length:=hT.length
 have kp:∀ g:Heap,(∀ b u,b≠L->s.heap.get? b=some u->g.get? b=some u)->∀ v ns,TupI s.heap v ns->TupI g v ns:=fun g k v ns x=>x.to fun b u e z=>k b u (fun q=>neL v ns x (by rw[e,q])) z
 have memk:∀ v∈as.map Value.ref,∃ k,TupI s.heap v k:=fun v hv=>by
  obtain⟨a,ha,rfl⟩:=List.mem_map.mp hv
  clear h ho neL kp hl lenk hv
  induction hT with
  |nil=>cases ha
  |cons r _ ih =>
   rcases List.mem_cons.mp ha with e | e
   ·rw[e];exact⟨_,r.1⟩
   ·exact ih e
 refine sort_at (κ:=κT s.heap) (kd:=tuples' true) ho (fun p hp=>?_) (by rw[List.length_map];exact hl) (fun l2 g k=>⟨ltT_ok (kp g k),fun R hR=>?_⟩) fun ws g c pw sw k gL=>?_
 ·rw[pairsOf_toList]at hp
  obtain⟨e1,e2⟩:=Srt.mem_zip_self hp
  obtain⟨kk,x⟩:=memk p.2 e2
  rw[e1]
  exact⟨kk,κT_key x⟩
 ·have hT':Paired (fun a k=>TupI g (.ref a) k/\k≠[]) as ks:=Paired.mapP hT fun a b z=>⟨kp g k _ _ z.1,z.2⟩
  obtain⟨fs,t,l,z⟩:=tups_of hT'
  by_cases e0:fs=[]
  ·rw[e0]at l
   rw[List.length_map]at l2
   simp at l
   lia
  ·refine kat_kind (T:=Value.type "int") t (List.length_pos_iff.mpr e0) (fun v hv=>?_) (by decide) ?_
   ·obtain⟨i,tk,rfl⟩:=z v hv
    exact looks_int
   ·have e:(Value.type "int" != Value.type "tuple")=true:=by decide
    rw[e]
    exact hR
 ·-- the values are refs again,the keys a permutation
  have unr:∀ l:List Value,(∀ v∈l,∃ a,v=Value.ref a)->(l.map unref).map Value.ref=l:=fun l hl=>by
   induction l with
   |nil=>rfl
   |cons v l ih =>
    obtain⟨a,rfl⟩:=hl v (List.mem_cons_self ..)
    rw[List.map_cons,List.map_cons,ih fun v hv=>hl v (List.mem_cons_of_mem _ hv)]
    rfl
  have eb:(ws.map unref).map Value.ref=ws:=unr ws fun v hv=>by
   obtain⟨a,_,rfl⟩:=List.mem_map.mp (pw.mem_iff.mp hv)
   exact⟨a,rfl⟩
  have pb:(ws.map unref).Perm as:=by
   have:=pw.map unref
   rw[List.map_map]at this
   have e:(as.map (unref ∘ Value.ref))=as:=by
    rw[show(unref ∘ Value.ref)=id from rfl,List.map_id]
   rw[e]at this
   exact this
  generalize ws.map unref=bs at eb pb
  subst eb
  have ek:ks=as.map (keyA s.heap):=by
   clear h ho neL kp hl lenk memk pw sw pb
   induction hT with
   |nil=>rfl
   |cons r _ ih=>rw[List.map_cons,keyA_eq r.1,<- ih]
  have kb:∀ b∈bs,TupI s.heap (.ref b) (keyA s.heap b):=fun b hb=>by
   obtain⟨k,x⟩:=memk (.ref b) (List.mem_map.mpr ⟨b,pb.mem_iff.mp hb,rfl⟩)
   rw[keyA_eq x]
   exact x
  refine h bs (bs.map (keyA s.heap)) g c pb (by rw[ek];exact pb.map _) ?_ ?_ k gL
  ·rw[List.pairwise_iff_getElem]
   intro i j hi hj ij
   rw[List.length_map]at hi hj
   have z:=sw i j (Nat.le_of_lt ij) (by rw[List.length_map];exact hj)
   have kk:∀ m (hm:m<bs.length),KK (κT s.heap) (pairsOf (bs.map Value.ref)) m=keyA s.heap bs[m]:=fun m hm=>by
    have e:(pairsOf (bs.map Value.ref))[m]?=some (Value.ref bs[m],Value.ref bs[m]):=by simp[pairsOf,hm]
    unfold KK
    rw[e]
    rfl
   rw[kk i hi,kk j hj]at z
   rw[List.getElem_map,List.getElem_map]
   exact z
  ·clear h ho neL kp hl lenk memk pw sw pb gL
   induction bs with
   |nil=>exact .nil
   |cons b bs ih=>exact .cons (kb b (List.mem_cons_self ..)) (ih fun b hb=>kb b (List.mem_cons_of_mem _ hb))
end
open PySem PySem.W PyProof.Rows
section
variable{X:Cx}
theorem call_sum(hc:X.calm=true):CallR X (.builtin "sum") (fun xs H Q=>∃ (l:Addr) (ns:List Int),xs=[V.ref l]/\SqL X.K H l (ns.map V.int)/\Q (.int ns.sum) H):=by
 intro pins s σ H xs us Q I r h
 obtain⟨l,ns,rfl,hq,q⟩:=h
 obtain⟨u,rfl,rx⟩:=vals1 r
 cases rx
 obtain⟨its,r',pl,hz⟩:=I.list hq
 have hi:=intsAre_of r'
 obtain⟨ys,hx⟩:=hi.allInts.items
 have pl':s.heap.IsList l (intItems ys):=hx▸pl.isList
 refine sum_intListG (I.ok.hd hc) pl' fun h' tk t' hk=>?_
 have e1:ns=ys.toList.map (·.1):=by
  rw[<- nums_intItems,<- hx]
  exact(show numsOf its.toArray.toList=ns from hi.numsOf).symm
 have e2:preSum (numAt ys) ys.size=ns.sum:=by rw[preSum_eq,List.take_of_length_le (by simp),e1]
 rw[e2]
 exact⟨.int ns.sum,H,I.kept hk,⟨t',rfl⟩,q⟩
theorem call_range(X:Cx):CallR X (.type "range") (fun xs H Q=>∃ j:Int,xs=[V.int j]/\∀ p,H p=none->Q (.ref p) (upd H p (.rng 0 j))):=by
 intro pins s σ H xs us Q I r h
 obtain⟨j,rfl,q⟩:=h
 obtain⟨u,rfl,t,rfl⟩:=vals1 r
 refine call_range_1 ⟨.ref s.heap.objs.size,_,I.laid (t':=s.toks+1+1) (a:=s.heap.objs.size) (o:=.rng 0 j) (fun b o e=>Heap.get?_push_of_some _ e) (Nat.le_refl _) ⟨_,_,_,Heap.get?_push_size _ rfl⟩,rfl,q _ (I.hok.fresh (Nat.le_refl _))⟩
noncomputable def upto(n:Nat):List Int:=(List.range n).map fun(i:Nat)=>(i:Int)
theorem upto_length(n:Nat):(upto n).length=n:=by simp[upto]
theorem call_list_rng(hc:X.calm=true):CallR X (.type "list") (fun xs H Q=>∃ p j,xs=[V.ref p]/\H p=some (.rng 0 j)/\-(2 ^ 62)<=j/\j<=1000000/\∀ l,H l=none->Q (.ref l) (upd H l (.lst ((upto j.toNat).map V.int)))):=by
 intro pins s σ H xs us Q I r h
 obtain⟨p,j,rfl,hp,h1,h2,q⟩:=h
 obtain⟨u,rfl,rx⟩:=vals1 r
 cases rx
 obtain⟨t,u,v,e⟩:=I.hok p _ hp
 have rs:Builtin.Range.rangeSize 0 j 1=((j.toNat:Nat):Int):=by rw[rangeSize_one];split <;> lia
 refine call_list_range (I.ok.hd hc) (show IsRange s.heap p 0 j 1 t u v from e) (small_one (by lia) (by lia) h1 (by lia)) rs (by lia) fun h' tk acc c kp hD hI=>?_
 refine⟨.ref s.heap.objs.size,_,I.laid (t':=tk) (a:=s.heap.objs.size) (o:=.lst ((upto j.toNat).map V.int)) kp (Nat.le_refl _) (show ObjOk X.prog X.w _ h' _ (.lst ((upto j.toNat).map V.int))from⟨?_,acc.toList,c,?_,by rw[Array.toArray_toList];exact hD⟩),rfl,q _ (I.hok.fresh (Nat.le_refl _))⟩
 ·rw[List.length_map,upto_length,sizeLine_eq];lia
 ·have len:acc.toList.length=j.toNat:=by rw[Array.length_toList];exact hI.1
  have key:∀ (n:Nat) (a:List Value) (b:Nat),a.length=n->(∀ i u,a[i]?=some u->∃ t,u=Value.int ((b+i:Nat):Int) t)->Vals (((List.range' b n).map fun(i:Nat)=>(i:Int)).map V.int) a:=by
   intro n
   induction n with
   |zero=>intro a b e _;rw[List.eq_nil_of_length_eq_zero e];exact .nil
   |succ n ih =>
    intro a b e f
    cases a with
    |nil=>simp at e
    |cons u a =>
     rw[List.range'_succ,List.map_cons,List.map_cons]
     refine .cons (f 0 u rfl) (ih a (b+1) (by simpa using e) fun i u hu=>?_)
     obtain⟨t,z⟩:=f (i+1) u (by simpa using hu)
     exact⟨t,by rw[z];congr 1;lia⟩
  have:=key j.toNat acc.toList 0 len fun i u hu=>by
   obtain⟨t,z⟩:=hI.2 i u (by rw[<- Array.getElem?_toList];exact hu)
   exact⟨t,by rw[z];congr 1;lia⟩
  rw[<- List.range_eq_range']at this
  exact this
theorem call_isinst:CallR X (.builtin "isinstance") (fun xs H Q=>∃ x t c b,xs=[x,V.ty c]/\TyOf X.K H x t/\PySem.W.kitOne X.K t (.type c)=some b/\Q (.bl b) H):=by
 intro pins s σ H xs us Q I r h
 obtain⟨x,t,c,b,rfl,ty,e,q⟩:=h
 obtain⟨u,u',rfl,rx,rc⟩:=vals2 r
 cases rc
 exact isinst_ok I rx ty e fun tk=>⟨.bl b,H,I.tok _,rfl,q⟩
end
theorem star_sub{a b:Expr}{pos:Pos}{rest:List Expr}{env:Env}:starEach (.Subscript a b pos :: rest) env=(false,eval (.Subscript a b pos) env) :: starEach rest env:=rfl
theorem star_call{f:Expr}{args:List Expr}{ks:List Keyword}{pos:Pos}{rest:List Expr}{env:Env}:starEach (.Call f args ks pos :: rest) env=(false,eval (.Call f args ks pos) env) :: starEach rest env:=rfl
theorem star_bin{a b:Expr}{op:Operator}{pos:Pos}{rest:List Expr}{env:Env}:starEach (.BinOp a op b pos :: rest) env=(false,eval (.BinOp a op b pos) env) :: starEach rest env:=rfl
theorem star_cmp{a:Expr}{ops:List CmpOp}{bs:List Expr}{pos:Pos}{rest:List Expr}{env:Env}:starEach (.Compare a ops bs pos :: rest) env=(false,eval (.Compare a ops bs pos) env) :: starEach rest env:=rfl
theorem star_comp{e:Expr}{gs:List Comprehension}{sc:Scope}{pos:Pos}{rest:List Expr}{env:Env}:starEach (.ListComp e gs sc pos :: rest) env=(false,eval (.ListComp e gs sc pos) env) :: starEach rest env:=rfl
theorem star_lst{es:List Expr}{pos:Pos}{rest:List Expr}{env:Env}:starEach (.List es pos :: rest) env=(false,eval (.List es pos) env) :: starEach rest env:=rfl
theorem star_tup{es:List Expr}{k:Nat}{pos:Pos}{rest:List Expr}{env:Env}:starEach (.Tuple es k pos :: rest) env=(false,eval (.Tuple es k pos) env) :: starEach rest env:=rfl
section
variable{X:Cx}{es:List Expr}{te:TE}{t:TA}{pos:Pos}
theorem pa_sub{a b:Expr}(ha:PE X (.Subscript a b pos) te)(hr:PA X es t):PA X (.Subscript a b pos :: es) (tCons te t):=pa_cons ha hr (hs:=star_sub)
theorem pa_call{f:Expr}{args:List Expr}{ks:List Keyword}(ha:PE X (.Call f args ks pos) te)(hr:PA X es t):PA X (.Call f args ks pos :: es) (tCons te t):=pa_cons ha hr (hs:=star_call)
theorem pa_bin{a b:Expr}{op:Operator}(ha:PE X (.BinOp a op b pos) te)(hr:PA X es t):PA X (.BinOp a op b pos :: es) (tCons te t):=pa_cons ha hr (hs:=star_bin)
theorem pa_cmp{a:Expr}{ops:List CmpOp}{bs:List Expr}(ha:PE X (.Compare a ops bs pos) te)(hr:PA X es t):PA X (.Compare a ops bs pos :: es) (tCons te t):=pa_cons ha hr (hs:=star_cmp)
theorem pa_comp{e:Expr}{gs:List Comprehension}{sc:Scope}(ha:PE X (.ListComp e gs sc pos) te)(hr:PA X es t):PA X (.ListComp e gs sc pos :: es) (tCons te t):=pa_cons ha hr (hs:=star_comp)
theorem pa_lst{xs:List Expr}(ha:PE X (.List xs pos) te)(hr:PA X es t):PA X (.List xs pos :: es) (tCons te t):=pa_cons ha hr (hs:=star_lst)
theorem pa_tup{xs:List Expr}{k:Nat}(ha:PE X (.Tuple xs k pos) te)(hr:PA X es t):PA X (.Tuple xs k pos :: es) (tCons te t):=pa_cons ha hr (hs:=star_tup)
theorem star_cst{c:Const}{k:Nat}{pos:Pos}{rest:List Expr}{env:Env}:starEach (.Constant c k pos :: rest) env=(false,eval (.Constant c k pos) env) :: starEach rest env:=rfl
theorem star_nam{x:Str}{pos:Pos}{rest:List Expr}{env:Env}:starEach (.Name x pos :: rest) env=(false,eval (.Name x pos) env) :: starEach rest env:=rfl
theorem pa_cst{c:Const}{k:Nat}(ha:PE X (.Constant c k pos) te)(hr:PA X es t):PA X (.Constant c k pos :: es) (tCons te t):=pa_cons ha hr (hs:=star_cst)
theorem pa_nam{x:Str}(ha:PE X (.Name x pos) te)(hr:PA X es t):PA X (.Name x pos :: es) (tCons te t):=pa_cons ha hr (hs:=star_nam)
end
end L2
namespace Srt
open PySem PySem.W PyProof.Rows
noncomputable def SeqK(b:Bool)(g:Heap)(l:Addr)(xs:Array Value):Prop:=match b with
 |true=>g.IsTuple l xs
 |false=>g.IsList l xs
noncomputable def ItK(b:Bool)(g:Heap)(it l:Addr)(i:Nat):Prop:=match b with
 |true=>g.IsTupleIter it l i
 |false=>g.IsListIter it l i
noncomputable def itO(b:Bool)(l:Addr):Obj:=match b with
 |true=>{ cls:=.type "tuple_iterator",data:=.fields #[.ref l,.int 0 0] }
 |false=>{ cls:=.type "list_iterator",data:=.fields #[.ref l,.int 0 0] }
theorem SeqK.to{b:Bool}{g g':Heap}{l:Addr}{xs:Array Value}(x:SeqK b g l xs)(k:∀ o,g.get? l=some o->g'.get? l=some o):SeqK b g' l xs:=by
 cases b
 ·exact Heap.IsList.at x k
 ·exact Heap.IsTuple.at x k
theorem ItK.to{b:Bool}{g g':Heap}{it l:Addr}{i:Nat}(x:ItK b g it l i)(k:∀ o,g.get? it=some o->g'.get? it=some o):ItK b g' it l i:=by
 cases b
 ·exact Heap.IsListIter.at x k
 ·obtain⟨o,e,r⟩:=(show g.IsTupleIter it l i from x)
  exact⟨o,k o e,r⟩
theorem ItK.lt{b:Bool}{g:Heap}{it l:Addr}{i:Nat}(x:ItK b g it l i):∃ o,g.get? it=some o/\∀ v,o.data≠.cell v:=by
 cases b
 ·obtain⟨o,e,c,d⟩:=(show g.IsListIter it l i from x)
  exact⟨o,e,fun v z=>by rw[d]at z;cases z⟩
 ·obtain⟨o,e,c,d⟩:=(show g.IsTupleIter it l i from x)
  exact⟨o,e,fun v z=>by rw[d]at z;cases z⟩
section
variable{prog:Program}{w:World}{A:Around}{E:Value->Shared->Prop}{s:Shared}
theorem nextK_item{b:Bool}{it l:Addr}{i:Nat}{xs:Array Value}{x:Value}{Q:Value->Shared->Prop}(hit:ItK b s.heap it l i)(hl:SeqK b s.heap l xs)(hx:xs[i]?=some x)
  (q:∀ g,ItK b g it l (i+1)->Heap.SameBut it s.heap g->Q x { s with heap:=g }):wpAny (model prog w) A (Builtin.SmallTypes.nextOf (.ref it)) Q E s:=by
 cases b
 ·exact wpAny_nextOf_list_item hit hl hx q
 ·have ty:s.TypeIs (.ref it) "tuple_iterator":=by
   obtain⟨o,e,c,_⟩:=(show s.heap.IsTupleIter it l i from hit)
   exact⟨o,e,c⟩
  obtain⟨o,e,c,d⟩:=(show s.heap.IsTupleIter it l i from hit)
  obtain⟨o2,e2,_,n2,d2⟩:=(show s.heap.IsTuple l xs from hl)
  unfold Builtin.SmallTypes.nextOf;refine wpAny_bind (wpAny_callSpecial?_slot (name:=Str.ofString "__next__") ty F.slot_tuple_iterator_next (wpAny_call_entry F.slot_tuple_iterator_next ty F.entry_tuple_iterator_next ?_ (F.args_tuple_iterator_next_1 _)))
  show wpAny _ _ (field (.ref it) 0 >>= _) _ _ s;refine wpAny_bind (wpAny_field e d (x:=.ref l) rfl ?_)
  show wpAny _ _ (if(Value.ref l == Value.none)=true then _ else _) _ _ s;rw[if_neg (show ¬((Value.ref l == Value.none)=true)from Bool.false_ne_true)]
  show wpAny _ _ (field (.ref it) 1 >>= _) _ _ s;refine wpAny_bind (wpAny_field e d (x:=.int i 0) rfl ?_)
  show wpAny _ _ (seqItems? (.ref l) >>= _) _ _ s;refine wpAny_bind (wpAny_seqItems e2 d2 ?_)
  simp only[Int.toNat_natCast,hx]
  refine wpAny_bind (wpAny_setField e d (by simp) (wpAny_pure ⟨x,rfl,wpAny_pure (q _ ?_ (Heap.SameBut.update ..))⟩))
  exact(show Heap.IsTupleIter _ it l (i+1)from⟨_,Heap.get?_update_self _ e (Obj.isFreed_of_fields (Obj.data_mapFields d _)),(Obj.cls_mapFields ..).trans c,by rw[Obj.data_mapFields d];simp[rawInt]⟩)
theorem nextK_end{b:Bool}{it l:Addr}{i:Nat}{xs:Array Value}{Q:Value->Shared->Prop}(hh:A.handled=none)(hit:ItK b s.heap it l i)(hl:SeqK b s.heap l xs)(hx:xs[i]?=none)
  (q:∀ g e,Heap.ExtBut it s.heap g->(∃ o,g.get? e=some o/\o.cls = .type "StopIteration")->E (.ref e) { s with heap:=g }):wpAny (model prog w) A (Builtin.SmallTypes.nextOf (.ref it)) Q E s:=by
 cases b
 ·exact wpAny_nextOf_list_end hh hit hl hx q
 ·have ty:s.TypeIs (.ref it) "tuple_iterator":=by
   obtain⟨o,e,c,_⟩:=(show s.heap.IsTupleIter it l i from hit)
   exact⟨o,e,c⟩
  obtain⟨o,e,c,d⟩:=(show s.heap.IsTupleIter it l i from hit)
  obtain⟨o2,e2,_,n2,d2⟩:=(show s.heap.IsTuple l xs from hl)
  unfold Builtin.SmallTypes.nextOf;refine wpAny_bind (wpAny_callSpecial?_slot (name:=Str.ofString "__next__") ty F.slot_tuple_iterator_next (wpAny_call_entry F.slot_tuple_iterator_next ty F.entry_tuple_iterator_next ?_ (F.args_tuple_iterator_next_1 _)))
  show wpAny _ _ (field (.ref it) 0 >>= _) _ _ s;refine wpAny_bind (wpAny_field e d (x:=.ref l) rfl ?_)
  show wpAny _ _ (if(Value.ref l == Value.none)=true then _ else _) _ _ s;rw[if_neg (show ¬((Value.ref l == Value.none)=true)from Bool.false_ne_true)]
  show wpAny _ _ (field (.ref it) 1 >>= _) _ _ s;refine wpAny_bind (wpAny_field e d (x:=.int i 0) rfl ?_)
  show wpAny _ _ (seqItems? (.ref l) >>= _) _ _ s;refine wpAny_bind (wpAny_seqItems e2 d2 ?_)
  simp only[Int.toNat_natCast,hx];refine wpAny_bind (wpAny_rule (wpAny_bind (wpAny_setField e d (by simp) ?_)))
  show wpAny _ _ (newExc (.type "StopIteration") [] >>= _) _ _ _;refine wpAny_bind ?_
  simp only[newExc,newTuple];refine wpAny_bind (wpAny_newObj_type ?_ (by size_fits))
  refine wpAny_bind (m:=firstArgMember _ _) (wpAny_of_eq (a:=Value.none) (by first | rfl |(simp only[firstArgMember];rfl)) (wpAny_newObj_type ?_ (by size_fits)))
  simp only[raiseNew];refine wpAny_bind (wpAny_handled ?_)
  rw[show A.in1.handled=none from hh];refine wpAny_bind (wpAny_pure (wpAny_throw ?_))
  exact q _ _ (((Heap.SameBut.update ..).extBut.push _).push _) ⟨_,Heap.get?_push_size _ rfl,rfl⟩
structure ZA(z ti to i1 i2:Addr):Prop where
 a1:ti≠z
 a2:to≠z
 a3:i1≠z
 a4:i2≠z
 a5:ti≠to
 a6:ti≠i1
 a7:ti≠i2
 a8:to≠i1
 a9:to≠i2
 a10:i1≠i2
noncomputable def Off(z to i1 i2 l:Addr):Prop:=l≠z/\l≠to/\l≠i1/\l≠i2
theorem zipK_item{b1 b2:Bool}{z ti to i1 i2 l1 l2:Addr}{k:Nat}{xs ys:Array Value}{x y a b:Value}{Q:Value->Shared->Prop}(D:ZA z ti to i1 i2)(o1:Off z to i1 i2 l1)(o2:Off z to i1 i2 l2)
  (hz:IsZip s.heap z ti to .none) (hTI:IsPair s.heap ti (.ref i1) (.ref i2)) (hTO:IsPair s.heap to a b) (h1:ItK b1 s.heap i1 l1 k) (h2:ItK b2 s.heap i2 l2 k) (hl1:SeqK b1 s.heap l1 xs) (hl2:SeqK b2 s.heap l2 ys) (hx:xs[k]?=some x) (hy:ys[k]?=some y)
  (q:∀ g,IsZip g z ti to (rawInt s.heap.objs.size)->IsPair g to x y->ItK b1 g i1 l1 (k+1)->ItK b2 g i2 l2 (k+1)->IsPair g s.heap.objs.size x y->(∀ c o,c≠z->c≠to->c≠i1->c≠i2->s.heap.get? c=some o->g.get? c=some o)->Q (.ref s.heap.objs.size) { s with heap:=g }) :
  wpAny (model prog w) A (Builtin.«zip.__next__» ⟨[.ref z],[]⟩) (fun fin s'=>∃ v,fin = .done (.ret v)/\Q v s') E s:=by
 show wpAny _ _ (field (.ref z) 2 >>= _) _ _ _;refine wpAny_bind (wpAny_field hz rfl (x:=.bool false) rfl ?_)
 show wpAny _ _ (field (.ref z) 3 >>= _) _ _ _;refine wpAny_bind (wpAny_field hz rfl (x:=.ref ti) rfl (wpAny_bind (wpAny_seqItems hTI rfl ?_)))
 show wpAny _ _ (Builtin.SmallTypes.ownedTupleIsFree (.ref z) >>= _) _ _ _;refine wpAny_bind ?_
 unfold Builtin.SmallTypes.ownedTupleIsFree;refine wpAny_bind (wpAny_field hz rfl (x:=.none) rfl (wpAny_pure ?_))
 simp only[if_true];refine wpAny_bind (wpAny_rule (wpAny_bind (wpAny_field hz rfl (x:=.ref to) rfl (wpAny_bind (wpAny_setField_rec hz (by simp) fun g1 z1 e1=>?_)))))
 replace z1:IsZip g1 z ti to .ellipsis:=z1
 refine wpAny_bind ?_;simp only[List.zipIdx_cons,List.zipIdx_nil,List.forIn_cons,List.forIn_nil]
 refine wpAny_bind (wpAny_bind (wpAny_onRaise ?_));show wpAny _ _ (Builtin.SmallTypes.nextOf (.ref i1) >>= _) _ _ _
 refine wpAny_bind (nextK_item (h1.to fun o e=>e1.extBut _ _ D.a3 e) (hl1.to fun o e=>e1.extBut _ _ o1.1 e) hx fun g2 n2 e2=>wpAny_pure ?_)
 have t2:IsPair g2 to a b:=e2.extBut _ _ D.a8 (e1.extBut _ _ D.a2 hTO)
 refine wpAny_bind (wpAny_seqItems t2 rfl (wpAny_bind (wpAny_updateSeq_pair t2 fun g3 t3 e3=>?_)))
 replace t3:IsPair g3 to x b:=t3
 refine wpAny_bind (wpAny_letGo (wpAny_pure (wpAny_bind (wpAny_bind (wpAny_onRaise ?_)))));show wpAny _ _ (Builtin.SmallTypes.nextOf (.ref i2) >>= _) _ _ _
 refine wpAny_bind (nextK_item (((h2.to fun o e=>e1.extBut _ _ D.a4 e).to fun o e=>e2.extBut _ _ (Ne.symm D.a10) e).to fun o e=>e3.extBut _ _ (Ne.symm D.a9) e) (((hl2.to fun o e=>e1.extBut _ _ o2.1 e).to fun o e=>e2.extBut _ _ o2.2.2.1 e).to fun o e=>e3.extBut _ _ o2.2.1 e) hy fun g4 n4 e4=>wpAny_pure ?_)
 have t4:IsPair g4 to x b:=e4.extBut _ _ D.a9 t3
 refine wpAny_bind (wpAny_seqItems t4 rfl (wpAny_bind (wpAny_updateSeq_pair t4 fun g5 t5 e5=>?_)))
 replace t5:IsPair g5 to x y:=t5
 refine wpAny_bind (wpAny_letGo (wpAny_pure (wpAny_pure (wpAny_bind (wpAny_seqItems t5 rfl (wpAny_bind (wpAny_newTuple ?_)))))))
 have sz:g5.objs.size=s.heap.objs.size:=by rw[e5.1,e4.1,e3.1,e2.1,e1.1]
 have z5:IsZip g5 z ti to .ellipsis:=e5.extBut _ _ (Ne.symm D.a2) (e4.extBut _ _ (Ne.symm D.a4) (e3.extBut _ _ (Ne.symm D.a2) (e2.extBut _ _ (Ne.symm D.a3) z1)))
 have k5:∀ c o,c≠z->c≠to->c≠i1->c≠i2->s.heap.get? c=some o->g5.get? c=some o:=fun c o c1 c2 c3 c4 e=>e5.extBut _ _ c2 (e4.extBut _ _ c4 (e3.extBut _ _ c2 (e2.extBut _ _ c3 (e1.extBut _ _ c1 e))))
 have n15:ItK b1 g5 i1 l1 (k+1):=((n2.to fun o e=>e3.extBut _ _ (Ne.symm D.a8) e).to fun o e=>e4.extBut _ _ D.a10 e).to fun o e=>e5.extBut _ _ (Ne.symm D.a8) e
 have n25:ItK b2 g5 i2 l2 (k+1):=n4.to fun o e=>e5.extBut _ _ (Ne.symm D.a9) e
 show wpAny _ _ (Builtin.SmallTypes.ownedTupleHandOut (.ref z) (.ref g5.objs.size) >>= _) _ _ _;refine wpAny_bind ?_
 unfold Builtin.SmallTypes.ownedTupleHandOut
 have z6:IsZip (g5.push { cls:=.type "tuple",data:=.seq #[x,y] }) z ti to .ellipsis:=Heap.get?_push_of_some _ z5
 refine wpAny_bind (wpAny_setField_rec z6 (by simp) fun g7 z7 e7=>?_)
 replace z7:IsZip g7 z ti to (rawInt g5.objs.size):=z7
 refine wpAny_setField_rec z7 (by simp) fun g8 z8 e8=>?_
 replace z8:IsZip g8 z ti to (rawInt g5.objs.size):=z8
 have up:∀ c o,c≠z->g5.get? c=some o->g8.get? c=some o:=fun c o c1 e=>e8.extBut _ _ c1 (e7.extBut _ _ c1 (Heap.get?_push_of_some _ e))
 have zlt:z<g5.objs.size:=Heap.lt_size z5
 have p8:IsPair g8 g5.objs.size x y:=e8.extBut _ _ (Nat.ne_of_gt zlt) (e7.extBut _ _ (Nat.ne_of_gt zlt) (Heap.get?_push_size _ rfl))
 rw[sz]at z8 p8
 refine wpAny_pure ⟨_,rfl,?_⟩
 show Q (.ref g5.objs.size) _;rw[sz]
 exact q g8 z8 (up _ _ D.a2 t5) (n15.to fun o e=>up _ o D.a3 e) (n25.to fun o e=>up _ o D.a4 e) p8 fun c o c1 c2 c3 c4 e=>up c o c1 (k5 c o c1 c2 c3 c4 e)
theorem zipK_end{b1 b2:Bool}{z ti to i1 i2 l1 l2:Addr}{k:Nat}{xs ys:Array Value}{a b:Value}{Q:Fin->Shared->Prop}(hh:A.handled=none)(D:ZA z ti to i1 i2)(o1:Off z to i1 i2 l1)(o2:Off z to i1 i2 l2)
  (hz:IsZip s.heap z ti to .none) (hTI:IsPair s.heap ti (.ref i1) (.ref i2)) (hTO:IsPair s.heap to a b) (h1:ItK b1 s.heap i1 l1 k) (h2:ItK b2 s.heap i2 l2 k) (hl1:SeqK b1 s.heap l1 xs) (hl2:SeqK b2 s.heap l2 ys) (he:xs[k]?=none\/ys[k]?=none)
  (q:∀ g e,(∀ c o,c≠z->c≠to->c≠i1->c≠i2->s.heap.get? c=some o->g.get? c=some o)->(∃ o,g.get? e=some o/\o.cls = .type "StopIteration")->E (.ref e) { s with heap:=g }) :
  wpAny (model prog w) A (Builtin.«zip.__next__» ⟨[.ref z],[]⟩) Q E s:=by
 show wpAny _ _ (field (.ref z) 2 >>= _) _ _ _;refine wpAny_bind (wpAny_field hz rfl (x:=.bool false) rfl ?_)
 show wpAny _ _ (field (.ref z) 3 >>= _) _ _ _;refine wpAny_bind (wpAny_field hz rfl (x:=.ref ti) rfl (wpAny_bind (wpAny_seqItems hTI rfl ?_)))
 show wpAny _ _ (Builtin.SmallTypes.ownedTupleIsFree (.ref z) >>= _) _ _ _;refine wpAny_bind ?_
 unfold Builtin.SmallTypes.ownedTupleIsFree;refine wpAny_bind (wpAny_field hz rfl (x:=.none) rfl (wpAny_pure ?_))
 simp only[if_true];refine wpAny_bind (wpAny_rule (wpAny_bind (wpAny_field hz rfl (x:=.ref to) rfl (wpAny_bind (wpAny_setField_rec hz (by simp) fun g1 z1 e1=>?_)))))
 replace z1:IsZip g1 z ti to .ellipsis:=z1
 refine wpAny_bind ?_;simp only[List.zipIdx_cons,List.zipIdx_nil,List.forIn_cons,List.forIn_nil]
 refine wpAny_bind (wpAny_bind (wpAny_onRaise ?_));show wpAny _ _ (Builtin.SmallTypes.nextOf (.ref i1) >>= _) _ _ _
 cases hx:xs[k]? with
 |none =>
  refine wpAny_bind (nextK_end hh (h1.to fun o e=>e1.extBut _ _ D.a3 e) (hl1.to fun o e=>e1.extBut _ _ o1.1 e) hx fun g2 e e2 he=>?_)
  obtain⟨oe,hoe,hce⟩:=he
  have z2:IsZip g2 z ti to .ellipsis:=e2 _ _ (Ne.symm D.a3) z1
  have ez:e≠z:=fun x=>by subst x;rw[z2]at hoe;cases hoe;simp at hce
  refine wpAny_setField_rec z2 (by simp) fun g3 _ e3=>q g3 e (fun c o c1 _ c3 _ x=>e3.extBut _ _ c1 (e2 _ _ c3 (e1.extBut _ _ c1 x))) ⟨oe,e3.extBut _ _ ez hoe,hce⟩
 |some x =>
  have hy:ys[k]?=none:=by
   rcases he with h | h
   ·rw[hx]at h;cases h
   ·exact h
  refine wpAny_bind (nextK_item (h1.to fun o e=>e1.extBut _ _ D.a3 e) (hl1.to fun o e=>e1.extBut _ _ o1.1 e) hx fun g2 n2 e2=>wpAny_pure ?_)
  have t2:IsPair g2 to a b:=e2.extBut _ _ D.a8 (e1.extBut _ _ D.a2 hTO)
  refine wpAny_bind (wpAny_seqItems t2 rfl (wpAny_bind (wpAny_updateSeq_pair t2 fun g3 t3 e3=>wpAny_bind (wpAny_letGo (wpAny_pure (wpAny_bind (wpAny_bind (wpAny_onRaise ?_))))))))
  show wpAny _ _ (Builtin.SmallTypes.nextOf (.ref i2) >>= _) _ _ _
  refine wpAny_bind (nextK_end hh (((h2.to fun o e=>e1.extBut _ _ D.a4 e).to fun o e=>e2.extBut _ _ (Ne.symm D.a10) e).to fun o e=>e3.extBut _ _ (Ne.symm D.a9) e) (((hl2.to fun o e=>e1.extBut _ _ o2.1 e).to fun o e=>e2.extBut _ _ o2.2.2.1 e).to fun o e=>e3.extBut _ _ o2.2.1 e) hy fun g4 e e4 he=>?_)
  obtain⟨oe,hoe,hce⟩:=he
  have z4:IsZip g4 z ti to .ellipsis:=e4 _ _ (Ne.symm D.a4) (e3.extBut _ _ (Ne.symm D.a2) (e2.extBut _ _ (Ne.symm D.a3) z1))
  have ez:e≠z:=fun x=>by subst x;rw[z4]at hoe;cases hoe;simp at hce
  refine wpAny_setField_rec z4 (by simp) fun g5 _ e5=>q g5 e (fun c o c1 c2 c3 c4 x=>e5.extBut _ _ c1 (e4 _ _ c4 (e3.extBut _ _ c2 (e2.extBut _ _ c3 (e1.extBut _ _ c1 x))))) ⟨oe,e5.extBut _ _ ez hoe,hce⟩
theorem pyIterK{b:Bool}{l:Addr}{xs:Array Value}{Q:Value->Shared->Prop}(h:SeqK b s.heap l xs)(q:Q (.ref s.heap.objs.size) { s with heap:=s.heap.push (itO b l) }):wpAny (model prog w) A (pyIter (.ref l)) Q E s:=by
 cases b
 ·exact wpAny_pyIter_list h q
 ·exact wpAny_pyIter_tuple h q
theorem ItK.new{b:Bool}{l:Addr}(g:Heap):ItK b (g.push (itO b l)) g.objs.size l 0:=by
 cases b
 ·exact(show Heap.IsListIter _ _ _ _ from⟨_,Heap.get?_push_size _ rfl,rfl,rfl⟩)
 ·exact(show Heap.IsTupleIter _ _ _ _ from⟨_,Heap.get?_push_size _ rfl,rfl,rfl⟩)
noncomputable abbrev zK2(g:Heap)(b1 b2:Bool)(l1 l2:Addr):Heap:=(g.push (itO b1 l1)).push (itO b2 l2)
noncomputable abbrev zK3(g:Heap)(b1 b2:Bool)(l1 l2:Addr):Heap:=(zK2 g b1 b2 l1 l2).push { cls:=.type "tuple",data:=.seq #[.ref g.objs.size,.ref (g.push (itO b1 l1)).objs.size] }
noncomputable abbrev zK4(g:Heap)(b1 b2:Bool)(l1 l2:Addr):Heap:=(zK3 g b1 b2 l1 l2).push { cls:=.type "tuple",data:=.seq #[.none,.none] }
noncomputable abbrev zK5(g:Heap)(b1 b2:Bool)(l1 l2:Addr):Heap:=(zK4 g b1 b2 l1 l2).push { cls:=.type "zip",data:=.fields #[.none,.bool false,.bool false,.ref (zK2 g b1 b2 l1 l2).objs.size,.ref (zK3 g b1 b2 l1 l2).objs.size] }
theorem zipK_new(b1 b2:Bool)(l1 l2:Addr)(xs ys:Array Value):Meets (Builtin.«zip.__new__» ⟨[.type "zip",.ref l1,.ref l2],[]⟩) (fun _ R s=>SeqK b1 s.heap l1 xs/\SeqK b2 s.heap l2 ys/\R (.ok (.ret (.ref (zK4 s.heap b1 b2 l1 l2).objs.size))) { s with heap:=zK5 s.heap b1 b2 l1 l2 }) :=
 .of_wp fun prog w A R s h=>by
  obtain⟨hp,g,d,tk,os⟩:=s
  obtain⟨hl1,hl2,h⟩:=h
  have hsub:=sub_zip
  have hL1:SeqK b1 (Shared.heap ⟨hp,g,d,tk,os⟩) l1 xs:=hl1
  have hL2:SeqK b2 (Shared.heap ⟨hp.push (itO b1 l1),g,d,tk,os⟩) l2 ys:=hl2.to fun o e=>Heap.get?_push_of_some _ e
  wp_walk using pyIterK hL1,pyIterK hL2
  exact⟨_,rfl,h⟩
end
end Srt
namespace L2
open PySem PySem.W PyProof.Rows Srt
noncomputable def SqB(b:Bool)(K:PySem.W.Frag)(H:Hp)(l:Addr)(xs:List V):Prop:=match b with
 |true=>SqT K H l xs
 |false=>SqL K H l xs
section
variable{X:Cx}{pins:List (Addr×Obj)}{σ:St}{H:Hp}{s:Shared}{h':Heap}
theorem Inv.seqB(I:Inv X pins σ H s){b:Bool}{l:Addr}{xs:List V}(h:SqB b X.K H l xs):∃ its:List Value,Vals xs its/\SeqK b s.heap l its.toArray/\xs.length<=sizeLine:=by
 cases b
 ·obtain⟨its,r,p,z⟩:=I.list h
  exact⟨its,r,p.isList,z⟩
 ·obtain⟨its,r,p,z⟩:=I.tuple h
  exact⟨its,r,p,z⟩
theorem Inv.seqB_inj(I:Inv X pins σ H s){b:Bool}{l:Addr}{xs ys:List V}(h:SqB b X.K H l xs)(h':SqB b X.K H l ys):xs=ys:=by
 cases b
 ·exact I.list_inj h h'
 ·exact I.tuple_inj h h'
theorem Inv.offB(I:Inv X pins σ H s){b:Bool}{l c:Addr}{xs:List V}(h:SqB b X.K H l xs)(f:FpOk X pins H c):l≠c:=by
 intro e
 subst e
 obtain⟨f0,_,_,f3,_,_⟩:=f
 have base:∀ o,X.K.lookup l=some o->False:=fun o hk=>by
  have eb:=I.ok.mod.kin l o hk
  rcases f3 with f3 | f3
  ·exact I.ok.noex l o eb f3
  ·exact absurd (Nat.lt_of_lt_of_le (Heap.lt_size eb) (Nat.le_trans I.ok.bsz f3)) (Nat.lt_irrefl _)
 cases b
 ·rcases(show SqL X.K H l xs from h)with(z |⟨o,z⟩) |⟨o,_,_,hk,_⟩
  ·rw[f0]at z;cases z
  ·rw[f0]at z;cases z
  ·exact base o hk
 ·rcases(show SqT X.K H l xs from h)with(z |⟨o,z⟩) |⟨o,_,_,hk,_⟩
  ·rw[f0]at z;cases z
  ·rw[f0]at z;cases z
  ·exact base o hk
theorem Inv.turnedL{t':Nat}{ch:List Addr}(I:Inv X pins σ H s)(hf:∀ b∈ch,FpOk X pins H b)(k:∀ b o,b∉ch->s.heap.get? b=some o->h'.get? b=some o):Inv X pins σ H { s with heap:=h',toks:=t' }:=by
 have nit:∀ b u,H b=some u->b∉ch:=fun b u e z=>by rw[(hf b z).1]at e;cases e
 have loc:X.env.locals∉ch:=fun z=>(hf _ z).2.1 rfl
 refine I.step (g':=s.gens) (d':=s.drawn) (ch:=ch) (fun b hb=>?_) (fun b o _ _ hc e _=>k b o hc e) (fun b o _ _ hc e _=>⟨o.slots,k b o hc e⟩) (fun _ _ _ _ n=>n) (fun b o hc e=>⟨o,k b o hc e⟩) (fun _ _ e=>e) (fun _ _ _ e=>e) (fun b ps e=>⟨#[],by rw[e];simp⟩) (fun m hm=>?_) (fun b u e=>?_) I.bare
 ·obtain⟨_,f1,_,f3,f4,f5⟩:=hf b hb
  exact⟨f3,f1,f4,f5⟩
 ·obtain⟨o,es,ep,ho,r⟩:=hm
  exact⟨o,es,ep,k _ o loc ho,r⟩
 ·refine(I.hok b u e).stay (fun c v hc q=>k c v ?_ q) (fun _ q=>q) fun _ _ q=>q
  rcases hc with z | z
  ·rw[z];exact nit b u e
  ·exact nit c _ z
theorem Inv.turnedN{t':Nat}{ch:List Addr}{a:Addr}{ob:HO}(I:Inv X pins σ H s)(hf:∀ b∈ch,FpOk X pins H b)(k:∀ b o,b∉ch->s.heap.get? b=some o->h'.get? b=some o)(ha:s.heap.objs.size<=a)(new:ObjOk X.prog X.w (upd H a ob) h' a ob) :
  Inv X pins σ (upd H a ob) { s with heap:=h',toks:=t' }:=by
 have hn:H a=none:=I.hok.fresh ha
 have nit:∀ b u,H b=some u->b∉ch:=fun b u e z=>by rw[(hf b z).1]at e;cases e
 have loc:X.env.locals∉ch:=fun z=>(hf _ z).2.1 rfl
 have old:∀ b o,s.heap.get? b=some o->b≠a:=fun b o e=>Nat.ne_of_lt (Nat.lt_of_lt_of_le (Heap.lt_size e) ha)
 refine I.step (g':=s.gens) (d':=s.drawn) (ch:=ch) (fun b hb=>?_) (fun b o _ _ hc e _=>k b o hc e) (fun b o _ _ hc e _=>⟨o.slots,k b o hc e⟩) (fun b o _ e n=>by rw[upd_ne (old b o e)];exact n) (fun b o hc e=>⟨o,k b o hc e⟩)
  (fun b xs e=>by rw[upd_ne (ne_of_none e hn)];exact e) (fun b o u e=>by rw[upd_ne (ne_of_none e hn)];exact e) (fun b ps e=>⟨#[],by rw[upd_ne (ne_of_none e hn),e];simp⟩) (fun m hm=>?_) (fun b u e=>?_) I.bare
 ·obtain⟨_,f1,_,f3,f4,f5⟩:=hf b hb
  exact⟨f3,f1,f4,f5⟩
 ·obtain⟨o,es,ep,ho,r⟩:=hm
  exact⟨o,es,ep,k _ o loc ho,r⟩
 ·by_cases hb:b=a
  ·subst hb
   rw[upd_same]at e
   cases e
   exact new
  ·rw[upd_ne hb]at e
   refine(I.hok b u e).stay (fun c v hc q=>k c v ?_ q) (fun c q=>by rw[upd_ne (ne_of_none q hn)];exact q) fun c xs q=>by rw[upd_ne (ne_of_none q hn)];exact q
   rcases hc with z | z
   ·rw[z];exact nit b u e
   ·exact nit c _ z
end
noncomputable def Itz(K:PySem.W.Frag)(b1 b2:Bool)(l1 l2:Addr):It :=
  ⟨fun i H=>∃ xs ys x y,SqB b1 K H l1 xs/\SqB b2 K H l2 ys/\xs[i]?=some x/\ys[i]?=some y,
   fun i H v H'=>∃ T x y,v = .ref T/\H T=none/\H'=upd H T (.tup [x,y])/\(∀ xs,SqB b1 K H l1 xs->xs[i]?=some x)/\∀ ys,SqB b2 K H l2 ys->ys[i]?=some y,
   fun i H=>∃ xs ys,SqB b1 K H l1 xs/\SqB b2 K H l2 ys/\(xs.length<=i\/ys.length<=i)⟩
theorem turn_zip{P:Program}{w:World}{K:PySem.W.Frag}{es:List Expr}{kk:Nat}{pos:Pos}(b1 b2:Bool)(z ti to i1 i2 l1 l2:Addr)(D:ZA z ti to i1 i2):Turn P w K (.Tuple es kk pos) (Itz K b1 b2 l1 l2) [z,ti,to,i1,i2] z
  (fun i h=>IsZip h z ti to .none/\IsPair h ti (.ref i1) (.ref i2)/\(∃ a b,IsPair h to a b)/\ItK b1 h i1 l1 i/\ItK b2 h i2 l2 i)where
 mem:=by simp
 obj:=fun i h st b hb=>by
  obtain⟨hz,hti,⟨a,c,hto⟩,h1,h2⟩:=st
  simp only[List.mem_cons,List.not_mem_nil,or_false]at hb
  rcases hb with e | e | e | e | e
  ·rw[e];exact⟨_,hz,fun v z=>by cases z⟩
  ·rw[e];exact⟨_,hti,fun v z=>by cases z⟩
  ·rw[e];exact⟨_,hto,fun v z=>by cases z⟩
  ·rw[e];exact h1.lt
  ·rw[e];exact h2.lt
 keep:=fun i h h' st k=>by
  obtain⟨hz,hti,⟨a,c,hto⟩,h1,h2⟩:=st
  exact⟨k z (by simp) _ hz,k ti (by simp) _ hti,⟨a,c,k to (by simp) _ hto⟩,h1.to fun o e=>k i1 (by simp) o e,h2.to fun o e=>k i2 (by simp) o e⟩
 item:=by
  intro X hP hw hK hc i pins s σ H E I hf st hg
  subst hP hw hK
  obtain⟨hz,hti,⟨a,c,hto⟩,h1,h2⟩:=st
  obtain⟨xs,ys,x,y,q1,q2,hx,hy⟩:=hg
  obtain⟨us,r1,p1,_⟩:=I.seqB q1
  obtain⟨ws,r2,p2,_⟩:=I.seqB q2
  obtain⟨u,hu,ru⟩:=r1.get hx
  obtain⟨v,hv,rv⟩:=r2.get hy
  have off1:Off z to i1 i2 l1:=⟨I.offB q1 (hf z (by simp)),I.offB q1 (hf to (by simp)),I.offB q1 (hf i1 (by simp)),I.offB q1 (hf i2 (by simp))⟩
  have off2:Off z to i1 i2 l2:=⟨I.offB q2 (hf z (by simp)),I.offB q2 (hf to (by simp)),I.offB q2 (hf i1 (by simp)),I.offB q2 (hf i2 (by simp))⟩
  have hT:s.TypeIs (.ref z) "zip":=⟨_,hz,rfl⟩
  have hn:H s.heap.objs.size=none:=I.hok.fresh (Nat.le_refl _)
  unfold pyNext
  refine wpAny_bind (wpAny_attempt (wpAny_callSpecial?_slot (name:=Str.ofString "__next__") hT F.slot_zip_next (wpAny_call_entry F.slot_zip_next hT F.entry_zip_next
   (zipK_item D off1 off2 hz hti hto h1 h2 p1 p2 (x:=u) (y:=v) (by simpa using hu) (by simpa using hv) fun g z1 t1 n1 n2 pp kp=>wpAny_pure ⟨_,rfl,?_⟩) (F.args_zip_next_1 _))))
  refine wpAny_letOwnedTupleGo_zip z1 fun g' z2 sb=>?_
  have zlt:z≠s.heap.objs.size:=Nat.ne_of_lt (Heap.lt_size hz)
  have kp2:∀ b o,b∉[z,ti,to,i1,i2]->s.heap.get? b=some o->g'.get? b=some o:=fun b o nb e=>by
   simp only[List.mem_cons,List.not_mem_nil,or_false,not_or]at nb
   exact sb.extBut _ _ nb.1 (kp b o nb.1 nb.2.2.1 nb.2.2.2.1 nb.2.2.2.2 e)
  have I2:Inv X pins σ (upd H s.heap.objs.size (.tup [x,y])) { s with heap:=g' }:=I.turnedN (t':=s.toks) (ch:=[z,ti,to,i1,i2]) (a:=s.heap.objs.size) (ob:=.tup [x,y]) hf kp2 (Nat.le_refl _) (show ObjOk X.prog X.w _ g' _ (.tup [x,y])from⟨by show 2<=sizeLine;decide,[u,v],.cons ru (.cons rv .nil),⟨_,sb.extBut _ _ (Ne.symm zlt) pp,rfl,0,rfl⟩⟩)
  refine⟨.ref s.heap.objs.size,_,I2,rfl,⟨_,x,y,rfl,hn,rfl,fun xs' h=>by rw[I.seqB_inj h q1];exact hx,fun ys' h=>by rw[I.seqB_inj h q2];exact hy⟩,⟨z2,sb.extBut _ _ D.a1 (kp _ _ D.a1 D.a5 D.a6 D.a7 hti),⟨_,_,sb.extBut _ _ D.a2 t1⟩,n1.to fun o e=>sb.extBut _ _ D.a3 e,n2.to fun o e=>sb.extBut _ _ D.a4 e⟩,fun b hb=>?_⟩
  have bo:∃ o,s.heap.get? b=some o:=by
   simp only[List.mem_cons,List.not_mem_nil,or_false]at hb
   rcases hb with e | e | e | e | e
   ·rw[e];exact⟨_,hz⟩
   ·rw[e];exact⟨_,hti⟩
   ·rw[e];exact⟨_,hto⟩
   ·rw[e];obtain⟨o,e,_⟩:=h1.lt;exact⟨o,e⟩
   ·rw[e];obtain⟨o,e,_⟩:=h2.lt;exact⟨o,e⟩
  obtain⟨o,e⟩:=bo
  rw[upd_ne (Nat.ne_of_lt (Heap.lt_size e))]
  exact(hf b hb).1
 done:=by
  intro X hP hw hK hc i pins s σ H E I hf st hg
  subst hP hw hK
  obtain⟨hz,hti,⟨a,c,hto⟩,h1,h2⟩:=st
  obtain⟨xs,ys,q1,q2,he⟩:=hg
  obtain⟨us,r1,p1,_⟩:=I.seqB q1
  obtain⟨ws,r2,p2,_⟩:=I.seqB q2
  have e1:=r1.length
  have e2:=r2.length
  have off1:Off z to i1 i2 l1:=⟨I.offB q1 (hf z (by simp)),I.offB q1 (hf to (by simp)),I.offB q1 (hf i1 (by simp)),I.offB q1 (hf i2 (by simp))⟩
  have off2:Off z to i1 i2 l2:=⟨I.offB q2 (hf z (by simp)),I.offB q2 (hf to (by simp)),I.offB q2 (hf i1 (by simp)),I.offB q2 (hf i2 (by simp))⟩
  have hT:s.TypeIs (.ref z) "zip":=⟨_,hz,rfl⟩
  unfold pyNext
  refine wpAny_bind (wpAny_attempt (wpAny_callSpecial?_slot (name:=Str.ofString "__next__") hT F.slot_zip_next (wpAny_call_entry F.slot_zip_next hT F.entry_zip_next (zipK_end (I.ok.hd hc) D off1 off2 hz hti hto h1 h2 p1 p2 ?_ fun g e kp he=>?_) (F.args_zip_next_1 _))))
  ·rcases he with h | h
   ·exact .inl (by simp;lia)
   ·exact .inr (by simp;lia)
  ·obtain⟨o,ho,hcl⟩:=he
   refine wpAny_bind (wpAny_isInstance (T:="StopIteration") (b:=true) ⟨o,ho,hcl⟩ isSubtype_stop (wpAny_pure ⟨rfl,?_⟩))
   refine I.turnedL (t':=s.toks) (ch:=[z,ti,to,i1,i2]) hf fun b o nb e=>?_
   simp only[List.mem_cons,List.not_mem_nil,or_false,not_or]at nb
   exact kp b o nb.1 nb.2.2.1 nb.2.2.2.1 nb.2.2.2.2 e
 self:=fun _ _ _ _ _ st h=>wpAny_pyIter_zip st.1 h
theorem za_new(n:Addr):ZA (n+4) (n+2) (n+3) n (n+1)where
 a1:=Nat.ne_of_lt (Nat.add_lt_add_left (by decide) n)
 a2:=Nat.ne_of_lt (Nat.add_lt_add_left (by decide) n)
 a3:=Nat.ne_of_lt (Nat.lt_add_of_pos_right (by decide))
 a4:=Nat.ne_of_lt (Nat.add_lt_add_left (by decide) n)
 a5:=Nat.ne_of_lt (Nat.add_lt_add_left (by decide) n)
 a6:=Nat.ne_of_gt (Nat.lt_add_of_pos_right (by decide))
 a7:=Nat.ne_of_gt (Nat.add_lt_add_left (by decide) n)
 a8:=Nat.ne_of_gt (Nat.lt_add_of_pos_right (by decide))
 a9:=Nat.ne_of_gt (Nat.add_lt_add_left (by decide) n)
 a10:=Nat.ne_of_lt (Nat.lt_add_of_pos_right (by decide))
noncomputable def iZip(b1 b2:Bool)(K:PySem.W.Frag)(ta:TA):TI:=fun σ H R=>ta σ H fun vs H1=>∃ l1 l2,vs=[.ref l1,.ref l2]/\(∃ xs,SqB b1 K H1 l1 xs)/\(∃ ys,SqB b2 K H1 l2 ys)/\R (Itz K b1 b2 l1 l2) H1
theorem pi_zip{X:Cx}{es:List Expr}{kk:Nat}{tpos:Pos}(b1 b2:Bool){a b:Expr}{ta:TA}{p pos:Pos}(hg:Gl X "zip")(hm:X.mg "zip" = none)(ha:PA X [a,b] ta)(hs:starEach [a,b] X.env=[(false,eval a X.env),(false,eval b X.env)]:=by rfl)(hs2:starEach [b] X.env=[(false,eval b X.env)]:=by rfl) :
  PI X (.Tuple es kk tpos) (.Call (.Name "zip" p) [a,b] [] pos) (iZip b1 b2 X.K ta):=by
 intro pins s σ H R I h
 refine Call_ (ld_blt I hg hm boot_zip (PyProof.Rows.callWith_type1 (thn (ha pos pins s σ H _ I h) fun us s1 ⟨vs,H1,I1,r1,q1⟩=>?_) (by rw[hs,hs2]) (by rw[hs2];rfl)))
 obtain⟨l1,l2,e,⟨xs,q1⟩,⟨ys,q2⟩,q⟩:=q1
 subst e
 obtain⟨u,u',rfl,rx,ry⟩:=vals2 r1
 cases rx
 cases ry
 obtain⟨us,_,p1,_⟩:=I1.seqB q1
 obtain⟨ws,_,p2,_⟩:=I1.seqB q2
 have z1:(s1.heap.push (itO b1 l1)).objs.size=s1.heap.objs.size+1:=Heap.size_push ..
 have z2:(zK2 s1.heap b1 b2 l1 l2).objs.size=s1.heap.objs.size+2:=by rw[Heap.size_push,z1]
 have z3:(zK3 s1.heap b1 b2 l1 l2).objs.size=s1.heap.objs.size+3:=by rw[Heap.size_push,z2]
 have z4:(zK4 s1.heap b1 b2 l1 l2).objs.size=s1.heap.objs.size+4:=by rw[Heap.size_push,z3]
 have g5:(zK5 s1.heap b1 b2 l1 l2).get? (zK4 s1.heap b1 b2 l1 l2).objs.size=some _:=Heap.get?_push_size _ rfl
 have g4:(zK5 s1.heap b1 b2 l1 l2).get? (zK3 s1.heap b1 b2 l1 l2).objs.size=some _:=Heap.get?_push_of_some _ (Heap.get?_push_size _ rfl)
 have g3:(zK5 s1.heap b1 b2 l1 l2).get? (zK2 s1.heap b1 b2 l1 l2).objs.size=some _:=Heap.get?_push_of_some _ (Heap.get?_push_of_some _ (Heap.get?_push_size _ rfl))
 have g2:ItK b2 (zK5 s1.heap b1 b2 l1 l2) (s1.heap.push (itO b1 l1)).objs.size l2 0:=(ItK.new (b:=b2) (l:=l2) (s1.heap.push (itO b1 l1))).to fun o e=>Heap.get?_push_of_some _ (Heap.get?_push_of_some _ (Heap.get?_push_of_some _ e))
 have g1:ItK b1 (zK5 s1.heap b1 b2 l1 l2) s1.heap.objs.size l1 0:=(ItK.new (b:=b1) (l:=l1) s1.heap).to fun o e=>Heap.get?_push_of_some _ (Heap.get?_push_of_some _ (Heap.get?_push_of_some _ (Heap.get?_push_of_some _ e)))
 rw[z2,z3,z4]at g5
 rw[z1,z2]at g3
 rw[z3]at g4
 rw[z1]at g2
 refine callType_new F.called_zip (by decide) (F.typeCall_zip_2 _ _) (F.newCall_zip_2 _ _) (fun obj=>F.args_object_init_3 obj _ _) F.entry_zip_new (zipK_new b1 b2 l1 l2 us.toArray ws.toArray) ⟨p1,p2,?_⟩
 show _/\_
 rw[z4]
 have kp:∀ c o,s1.heap.get? c=some o->(zK5 s1.heap b1 b2 l1 l2).get? c=some o:=fun c o x=>Heap.get?_push_of_some _ (Heap.get?_push_of_some _ (Heap.get?_push_of_some _ (Heap.get?_push_of_some _ (Heap.get?_push_of_some _ x))))
 refine⟨⟨_,g5,rfl⟩,wpAny_pyIter_zip g5 ⟨s1.heap.objs.size+4,_,_,_,H1,rfl,I1.kept (t':=s1.toks) kp,turn_zip b1 b2 _ (s1.heap.objs.size+2) (s1.heap.objs.size+3) s1.heap.objs.size (s1.heap.objs.size+1) l1 l2 (za_new _),⟨g5,g3,⟨_,_,g4⟩,g1,g2⟩,fun b hb=>?_,q⟩⟩
 have le:s1.heap.objs.size<=b:=by
  simp only[List.mem_cons,List.not_mem_nil,or_false]at hb
  rcases hb with e | e | e | e | e
  ·rw[e];exact Nat.le_add_right _ 4
  ·rw[e];exact Nat.le_add_right _ 2
  ·rw[e];exact Nat.le_add_right _ 3
  ·rw[e];exact Nat.le_refl _
  ·rw[e];exact Nat.le_add_right _ 1
 exact I1.fpOk le (I1.hok.fresh le)
open PySem PySem.W PyProof.Rows Srt
open PySem PySem.W PyProof.Rows Srt
section
variable{X:Cx}
theorem bools_at:∀ {bs:List Bool}{us:List Value},Vals (bs.map V.bl) us->∀ (i:Nat) (v:Value),us[i]?=some v->∃ b,bs[i]?=some b/\v = .bool b
 |[],_,.nil,i,v,h=>by simp at h
 |b :: bs,_,.cons r t,0,v,h=>by
  simp at h
  subst h
  exact⟨b,rfl,r⟩
 |b :: bs,_,.cons r t,i+1,v,h=>by
  obtain⟨c,e,q⟩:=bools_at t i v (by simpa using h)
  exact⟨c,by simpa using e,q⟩
theorem call_all(hc:X.calm=true):CallR X (.builtin "all") (fun xs H Q=>∃ (l:Addr) (bs:List Bool),xs=[V.ref l]/\SqL X.K H l (bs.map V.bl)/\Q (.bl (bs.all id)) H):=by
 intro pins s σ H xs us Q I r h
 obtain⟨l,bs,rfl,hq,q⟩:=h
 obtain⟨u,rfl,rx⟩:=vals1 r
 cases rx
 obtain⟨its,r',pl,hz⟩:=I.list hq
 have len:its.length=bs.length:=by rw[<- r'.length,List.length_map]
 have hl:=pl.isList
 have hlt:l<s.heap.objs.size:=by obtain⟨_,e,_⟩:=hl;exact Heap.lt_size e
 refine call_all_walk (wpAny_pyIter_list hl ⟨s.heap.objs.size,[s.heap.objs.size,l],[s.heap.objs.size],its.toArray.size,_,_,fun i=>(bs[i]?).getD true,rfl,Walks.list (A:=X.A.in1) (show X.A.handled=none from I.ok.hd hc) _ l (Nat.ne_of_lt hlt) its.toArray,⟨⟨_,Heap.get?_push_size _ rfl,rfl,rfl⟩,hl.push _⟩,fun i v s' Q' E' hP hQ=>?_,fun h' tk hk=>?_⟩)
 ·obtain⟨b,e,rfl⟩:=bools_at r' i v (by simpa using hP)
  simp only[e,Option.getD_some]at hQ
  exact wpAny_truthy_bool hQ
 ·have e:((List.range its.toArray.size).all fun i=>(bs[i]?).getD true)=bs.all id:=by rw[List.size_toArray,len];exact LSm.range_all bs
  rw[e]
  exact⟨.bl _,H,I.kept (t':=tk) (LSm.kept_iter hk),rfl,q⟩
variable{a b c d:Expr}{ta tb tc td:TE}{pos:Pos}
end
open PySem PySem.W PyProof.Rows Srt
noncomputable abbrev TupsAt(H:Hp)(as:List Addr)(ks:List (List Int)):Prop:=Paired (fun a k=>H a=some (.tup (List.map V.int k))) as ks
section
variable{X:Cx}
theorem refs_of:∀ {as:List Addr}{us:List Value},Vals (as.map V.ref) us->us=as.map Value.ref
 |[],_,.nil=>rfl
 |a :: as,_,.cons r t=>by rw[show _=Value.ref a from r,refs_of t];rfl
theorem tups_mem{H:Hp}{as:List Addr}{ks:List (List Int)}(h:TupsAt H as ks):∀ a∈as,∃ k:List Int,H a=some (.tup (k.map V.int)):=by
 induction h with
 |nil=>intro a ha;cases ha
 |cons r _ ih =>
  intro a ha
  rcases List.mem_cons.mp ha with e | e
  ·rw[e];exact⟨_,r⟩
  ·exact ih a e
inductive TyF(H:Hp):V->Value->Prop where
 |non:TyF H .non (.type "NoneType")
 |bl (x:Bool):TyF H (.bl x) (.type "bool")
 |int (i:Int):TyF H (.int i) (.type "int")
 |str (x:Str):TyF H (.str x) (.type "str")
 |lst {a:Addr}{xs:List V} (e:H a=some (.lst xs)):TyF H (.ref a) (.type "list")
 |tup {a:Addr}{xs:List V} (e:H a=some (.tup xs)):TyF H (.ref a) (.type "tuple")
theorem TyF.of{K:PySem.W.Frag}{H:Hp}{x:V}{t:Value}(h:TyF H x t):TyOf K H x t:=by
 cases h with
 |non=>exact .non
 |bl x=>exact .bl x
 |int i=>exact .int i
 |str x=>exact .str x
 |lst e=>exact .lst e
 |tup e=>exact .tup e
theorem call_isinst2:CallR X (.builtin "isinstance") (fun xs H Q=>∃ x t p b,xs=[x,V.ref p]/\TyF H x t/\H p=some (.tup [.ty "list",.ty "tuple"])/\PySem.W.kitAny X.K t [.type "list",.type "tuple"]=some b/\Q (.bl b) H):=by
 intro pins s σ H xs us Q I r h
 obtain⟨x,t,p,b,rfl,ty,hp,e,q⟩:=h
 obtain⟨u,u',rfl,rx,rc⟩:=vals2 r
 cases rc
 obtain⟨z,its,rv,o,e0,c,n,d⟩:=I.hok p _ hp
 obtain⟨cls,dd,dat,sl⟩:=o
 cases c
 cases d
 cases rv with
 |cons r1 r2 =>
  cases r2 with
  |cons r2 r3 =>
   cases r3
   cases r1
   cases r2
   have fin:∀ tk,EP X pins σ Q (.bool b) { s with toks:=tk }:=fun tk=>⟨.bl b,H,I.tok _,rfl,q⟩
   cases ty with
   |non=>cases(show u=Value.none from rx);exact PySem.W.kia_tup PySem.W.kitx_none I.kIn True.intro e0 e (fun z=>nomatch z) fin
   |bl y=>cases(show u=Value.bool y from rx);exact PySem.W.kia_tup PySem.W.kitx_bool I.kIn True.intro e0 e (fun z=>nomatch z) fin
   |int i=>obtain⟨t,q⟩:=(show ∃ t,u=Value.int i t from rx);cases q;exact PySem.W.kia_tup PySem.W.kitx_int I.kIn True.intro e0 e (fun z=>nomatch z) fin
   |str y=>obtain⟨t,q⟩:=(show ∃ t,u=Value.str y t from rx);cases q;exact PySem.W.kia_tup PySem.W.kitx_str I.kIn True.intro e0 e (fun z=>nomatch z) fin
   | @lst a xs ea =>
    cases(show u=Value.ref a from rx)
    obtain⟨_,_,n,_,h1⟩:=(show ObjOk X.prog X.w H s.heap a (.lst xs)from I.hok a _ ea)
    exact PySem.W.kia_tup PySem.W.kitx_list I.kIn ⟨_,h1,rfl⟩ e0 e (fun z=>nomatch z) fin
   | @tup a xs ea =>
    cases(show u=Value.ref a from rx)
    obtain⟨_,_,_,pp⟩:=(show ObjOk X.prog X.w H s.heap a (.tup xs)from I.hok a _ ea)
    obtain⟨o,h1,h2,_⟩:=pp
    exact PySem.W.kia_tup PySem.W.kitx_tuple I.kIn ⟨o,h1,h2⟩ e0 e (fun z=>nomatch z) fin
end
inductive Dt where
 |non | bl (b:Bool) | int (i:Int) | str (x:Str) | lst (ds:List Dt) | tup (ds:List Dt)
noncomputable def Dat(H:Hp):Nat->V->Dt->Prop
 | _,v,.non=>v = .non
 | _,v,.bl b=>v = .bl b
 | _,v,.int i=>v = .int i
 | _,v,.str x=>v = .str x
 | 0,_,.lst _=>False
 | 0,_,.tup _=>False
 |n+1,v,.lst ds=>∃ a xs,v = .ref a/\xs.length<=1000/\H a=some (.lst xs)/\Paired (Dat H n) xs ds
 |n+1,v,.tup ds=>∃ a xs,v = .ref a/\xs.length<=1000/\H a=some (.tup xs)/\Paired (Dat H n) xs ds
theorem Dat.same{H H':Hp}(s:Same H H'):∀ {n:Nat}{v:V}{d:Dt},Dat H n v d->Dat H' n v d
 | 0,v,.non,h=>h
 | 0,v,.bl _,h=>h
 | 0,v,.int _,h=>h
 | 0,v,.str _,h=>h
 |n+1,v,.non,h=>h
 |n+1,v,.bl _,h=>h
 |n+1,v,.int _,h=>h
 |n+1,v,.str _,h=>h
 |n+1,v,.lst ds,h=>by
  obtain⟨a,xs,e,l,ha,p⟩:=h
  exact⟨a,xs,e,l,s _ _ ha,Paired.mapP p fun x d z=>Dat.same s (n:=n) z⟩
 |n+1,v,.tup ds,h=>by
  obtain⟨a,xs,e,l,ha,p⟩:=h
  exact⟨a,xs,e,l,s _ _ ha,Paired.mapP p fun x d z=>Dat.same s (n:=n) z⟩
open PySem PyProof.Rows
section
variable{K:PySem.W.Frag}{a:Addr}{xs:List V}{g:TG}{tc:TT}{te:TE}{cap:List (Option Nat)}{σ:St}{H1:Hp}{Q:VK}
theorem comp_tup(P:Nat->List V->Hp->Prop)(hz:xs.length<=sizeLine)(p0:P 0 [] H1)(hl:∀ i ys H,i<=xs.length->P i ys H->SqT K H a xs)
  (hs:∀ i x ys H,xs[i]?=some x->P i ys H->g x (capt cap σ) H fun σ2 H2=>Kp (capt cap σ) σ2/\tc σ2 H2 fun b H3=>if b=true then te σ2 H3 fun y H4=>P (i+1) (ys++[y]) H4 else P (i+1) ys H3)
  (hd:∀ ys H,ys.length<=xs.length->P xs.length ys H->∀ D,H D=none->Q (.ref D) (upd H D (.lst ys))):compTurns (Itt K a) cap σ H1 Q g tc te:=by
 refine⟨xs.length,P,hz,p0,fun i ys H yl il p=>?_⟩
 have q:=hl i ys H il p
 by_cases hlt:i<xs.length
 ·refine .inr ⟨hlt,⟨xs,xs[i],q,by simp[hlt]⟩,fun x H' y=>?_⟩
  obtain⟨e,y⟩:=y
  subst e
  exact hs i x ys _ (y xs q) p
 ·have e:i=xs.length:=by lia
  subst e
  exact .inl ⟨⟨xs,q,Nat.le_refl _⟩,hd ys H yl p⟩
theorem comp_list(P:Nat->List V->Hp->Prop)(hz:xs.length<=sizeLine)(p0:P 0 [] H1)(hl:∀ i ys H,i<=xs.length->P i ys H->SqL K H a xs)
  (hs:∀ i x ys H,xs[i]?=some x->P i ys H->g x (capt cap σ) H fun σ2 H2=>Kp (capt cap σ) σ2/\tc σ2 H2 fun b H3=>if b=true then te σ2 H3 fun y H4=>P (i+1) (ys++[y]) H4 else P (i+1) ys H3)
  (hd:∀ ys H,ys.length<=xs.length->P xs.length ys H->∀ D,H D=none->Q (.ref D) (upd H D (.lst ys))):compTurns (Itl K a) cap σ H1 Q g tc te:=by
 refine⟨xs.length,P,hz,p0,fun i ys H yl il p=>?_⟩
 have q:=hl i ys H il p
 by_cases hlt:i<xs.length
 ·refine .inr ⟨hlt,⟨xs,xs[i],q,by simp[hlt]⟩,fun x H' y=>?_⟩
  obtain⟨e,y⟩:=y
  subst e
  exact hs i x ys _ (y xs q) p
 ·have e:i=xs.length:=by lia
  subst e
  exact .inl ⟨⟨xs,q,Nat.le_refl _⟩,hd ys H yl p⟩
theorem comp_range{lo:Int}{n:Nat}(P:Nat->List V->Hp->Prop)(hz:n<=sizeLine)(p0:P 0 [] H1)
  (hs:∀ i ys H,i<n->P i ys H->g (.int (lo+i)) (capt cap σ) H fun σ2 H2=>Kp (capt cap σ) σ2/\tc σ2 H2 fun b H3=>if b=true then te σ2 H3 fun y H4=>P (i+1) (ys++[y]) H4 else P (i+1) ys H3)
  (hd:∀ ys H,ys.length<=n->P n ys H->∀ D,H D=none->Q (.ref D) (upd H D (.lst ys))):compTurns (Itr lo n) cap σ H1 Q g tc te:=by
 refine⟨n,P,hz,p0,fun i ys H yl il p=>?_⟩
 by_cases hlt:i<n
 ·refine .inr ⟨hlt,hlt,fun x H' y=>?_⟩
  obtain⟨e,y⟩:=y
  subst e y
  exact hs i ys _ hlt p
 ·have e:i=n:=by lia
  subst e
  exact .inl ⟨Nat.le_refl _,hd ys H yl p⟩
end
noncomputable def capB(cap:List (Option Nat))(N' N:List Str)(names:List (Str×NameKind)):Bool:=(List.range cap.length).all fun j=>match cap[j]? with
 |some (some i)=>(match N'[j]? with
  |some x=>decide (N[i]?=some x/\names.lookup x=some .free)
  |none=>false)
 | _=>true
theorem capB_ok{cap:List (Option Nat)}{N' N:List Str}{names:List (Str×NameKind)}(h:capB cap N' N names=true):∀ j∈List.range cap.length,match cap[j]? with
  |some (some i)=>match N'[j]? with
   |some x=>N[i]?=some x/\names.lookup x=some .free
   |none=>False
  | _=>True:=by
 intro j hj
 have z:=List.all_eq_true.mp h j hj
 revert z
 cases e1:cap[j]? with
 |none=>intro _;trivial
 |some o =>
  cases o with
  |none=>intro _;trivial
  |some i =>
   cases e2:N'[j]? with
   |none =>
    intro z
    dsimp only at z
    exact absurd z Bool.false_ne_true
   |some x =>
    intro z
    dsimp only at z
    exact of_decide_eq_true z
theorem pg_tupK{X:Cx}{pos:Pos}(K:PySem.W.Frag)(e:X.K=K){es:List Expr}{k:Nat}{t:TGs}{n:Nat}(hc:X.calm=true)(h:PGs X es t)
  (hn:(assignEach es X.env).length=n) (hst:(assignEach es X.env).findIdx? (·.1)=none):PG X (.Tuple es k pos) (gTup K n t):=e▸pg_tup hc h hn hst
theorem Paired.at{α β:Type}{F:α->β->Prop}:∀ {l₁:List α}{l₂:List β},Paired F l₁ l₂->∀ (i:Nat) (h1:i<l₁.length) (h2:i<l₂.length),F l₁[i] l₂[i]:=by
 intro l ks h
 induction h with
 |nil=>intro i h1;exact absurd h1 (Nat.not_lt_zero _)
 |cons h t ih =>
  intro i h1 h2
  cases i with
  |zero=>exact h
  |succ i=>exact ih i (Nat.lt_of_succ_lt_succ h1) (Nat.lt_of_succ_lt_succ h2)
theorem Same.tupq{K:PySem.W.Frag}{H H':Hp}{a:Addr}{xs:List V}(e:Same H H')(h:SqT K H a xs):SqT K H' a xs:=by
 rcases h with(h |⟨o,h⟩) | h
 ·exact .inl (.inl (e _ _ h))
 ·exact .inl (.inr ⟨o,e _ _ h⟩)
 ·exact .inr h
theorem Same.new{q:Addr}{H:Hp}{o:HO}(h:H q=none):Same H (upd H q o):=fun b u e=>by rw[upd_ne (ne_of_none e h)];exact e
section
variable{K:PySem.W.Frag}{l1 l2:Addr}{xs ys:List V}{b1 b2:Bool}{g:TG}{tc:TT}{te:TE}{cap:List (Option Nat)}{σ:St}{H1:Hp}{Q:VK}
theorem comp_zip(P:Nat->List V->Hp->Prop)(hz:min xs.length ys.length<=sizeLine)(p0:P 0 [] H1)(hl:∀ i zs H,i<=min xs.length ys.length->P i zs H->SqB b1 K H l1 xs/\SqB b2 K H l2 ys)
  (hs:∀ i x y zs H T,xs[i]?=some x->ys[i]?=some y->P i zs H->H T=none->g (.ref T) (capt cap σ) (upd H T (.tup [x,y])) fun σ2 H2=>Kp (capt cap σ) σ2/\tc σ2 H2 fun b H3=>if b=true then te σ2 H3 fun y H4=>P (i+1) (zs++[y]) H4 else P (i+1) zs H3)
  (hd:∀ zs H,zs.length<=min xs.length ys.length->P (min xs.length ys.length) zs H->∀ D,H D=none->Q (.ref D) (upd H D (.lst zs))):compTurns (Itz K b1 b2 l1 l2) cap σ H1 Q g tc te:=by
 refine⟨min xs.length ys.length,P,hz,p0,fun i zs H yl il p=>?_⟩
 obtain⟨q1,q2⟩:=hl i zs H il p
 by_cases hlt:i<min xs.length ys.length
 ·have h1:i<xs.length:=by lia
  have h2:i<ys.length:=by omega
  refine .inr ⟨hlt,⟨xs,ys,xs[i],ys[i],q1,q2,by simp[h1],by simp[h2]⟩,fun v H' y=>?_⟩
  obtain⟨T,x,y,rfl,hT,rfl,f1,f2⟩:=y
  exact hs i x y zs _ T (f1 xs q1) (f2 ys q2) p hT
 ·have e:i=min xs.length ys.length:=by lia
  subst e
  exact .inl ⟨⟨xs,ys,q1,q2,by lia⟩,hd zs H yl p⟩
end
end L2
namespace K40
open PySem L2 PyProof.Rows
noncomputable def top(i:Nat):Stmt:=PySem.Challenge.pw_partedweb_k40_least_on_trees.main.body.getD i (.Pass ⟨0,0,0,0⟩)
noncomputable abbrev sBesideEach:Stmt:=top 1
noncomputable abbrev sLeastOnTree:Stmt:=top 3
noncomputable abbrev sBehindEach:Stmt:=top 4
noncomputable abbrev sWeightsBehind:Stmt:=top 5
noncomputable abbrev sLeastOf:Stmt:=top 6
noncomputable abbrev sIsOpenTo:Stmt:=top 7
noncomputable abbrev sCell:Stmt:=top 9
noncomputable abbrev sBox:Stmt:=top 10
noncomputable abbrev sTake:Stmt:=top 11
noncomputable abbrev sMany:Stmt:=top 12
noncomputable abbrev sWeight:Stmt:=top 13
noncomputable abbrev sTree:Stmt:=top 14
noncomputable abbrev sPosts:Stmt:=top 15
noncomputable abbrev sSame:Stmt:=top 16
noncomputable abbrev sHung:Stmt:=top 17
noncomputable abbrev sTable:Stmt:=top 18
noncomputable abbrev sAreOwners:Stmt:=top 19
noncomputable abbrev sCost:Stmt:=top 20
noncomputable abbrev sRows:Stmt:=top 21
noncomputable abbrev sIsTold:Stmt:=top 22
noncomputable abbrev sCount:Stmt:=top 23
noncomputable abbrev sRight:Stmt:=top 24
noncomputable abbrev sLaw:Stmt:=top 25
noncomputable def Kept(p:Addr)(H H':Hp):Prop:=∀ b o,b≠p->H b=some o->H' b=some o
theorem Kept.trans{p:Addr}{H H' H'':Hp}(a:Kept p H H')(b:Kept p H' H''):Kept p H H'':=fun c o n e=>b c o n (a c o n e)
theorem Kept.new{p q:Addr}{H:Hp}{o:HO}(h:H q=none):Kept p H (upd H q o):=fun b u _ e=>by rw[upd_ne (ne_of_none e h)];exact e
theorem Kept.at{p:Addr}{H:Hp}{o:HO}:Kept p H (upd H p o):=fun b u n e=>by rw[upd_ne n];exact e
noncomputable def BoxAt(H:Hp)(p:Addr)(N:Nat):Prop:=∃ a b c:Int,H p=some (.lst [.int a,.int b,.int c])/\0<=a/\0<=c/\c<=(N:Int)
theorem BoxAt.mono{H:Hp}{p:Addr}{N M:Nat}(x:BoxAt H p N)(h:N<=M):BoxAt H p M:=by
 obtain⟨a,b,c,e,h1,h2,h3⟩:=x
 exact⟨a,b,c,e,h1,h2,by lia⟩
theorem BoxAt.new{H:Hp}{p q:Addr}{N:Nat}{o:HO}(x:BoxAt H p N)(h:H q=none):BoxAt (upd H q o) p N:=by
 obtain⟨a,b,c,e,r⟩:=x
 exact⟨a,b,c,by rw[upd_ne (ne_of_none e h)];exact e,r⟩
theorem b01(b:Bool):-(2 ^ 64) <(if b=true then 1 else 0:Int)/\(if b=true then 1 else 0:Int)<2 ^ 64:=by cases b <;> decide
theorem b0(b:Bool):(0:Int)<=(if b=true then 1 else 0:Int):=by cases b <;> decide
noncomputable def spCell(K:PySem.W.Frag):Sp:=fun vs H Q _=>∃ (a:Addr) (ns:List Int) (k:Nat),vs=[.ref a,.int k]/\SqL K H a (ns.map V.int)/\∀ z,Q (.int z) H
noncomputable def spBox(K:PySem.W.Frag):Sp:=fun vs H Q _=>∃ (a:Addr) (ns:List Int) (k:Nat),vs=[.ref a,.int k]/\SqL K H a (ns.map V.int)/\∀ p H',H p=none->BoxAt H' p 0->Kept p H H'->Q (.ref p) H'
noncomputable def spTake:Sp:=fun vs H Q _=>∃ (p:Addr) (m:Int) (N:Nat),vs=[.ref p,.int m]/\BoxAt H p N/\N<2 ^ 40/\0<m/\m<1073741824/\∀ z H',0<=z->z<m->BoxAt H' p (N+1)->Kept p H H'->Q (.int z) H'
noncomputable def spMany:Sp:=fun vs H Q _=>∃ (p:Addr) (l f m:Int) (N:Nat),vs=[.ref p,.int l,.int f,.int m]/\BoxAt H p N/\N+2<2 ^ 40/\l<=f/\7<=m/\f-l<1000/\m<1000/\∀ z H',(l<=z/\z<=f)\/(7<=z/\z<=m)->BoxAt H' p (N+2)->Kept p H H'->Q (.int z) H'
noncomputable def spWeight:Sp:=fun vs H Q _=>∃ (p:Addr) (h:Nat) (N:Nat),vs=[.ref p,.int h]/\h<4/\BoxAt H p N/\N+2<2 ^ 40/\∀ z H',(1<=z/\z<=1073741824)->BoxAt H' p (N+2)->Kept p H H'->Q (.int z) H'
structure Txt(mg:Str->Option Value):Prop where
 abs:mg "abs" = none
 int:mg "int" = none
 len:mg "len" = none
 range:mg "range" = none
 min:mg "min" = none
 max:mg "max" = none
 tuple:mg "tuple" = none
 sorted:mg "sorted" = none
 isinst:mg "isinstance" = none
 list:mg "list" = none
 str:mg "str" = none
 bool:mg "bool" = none
 sum:mg "sum" = none
section
variable{P:Program}{w:World}{K:PySem.W.Frag}{mg:Str->Option Value}{base:Heap}
theorem scCell:FnScope ["_law_script","_law_k"] ["_law_script","_law_k"] (defScope sCell):=⟨rfl,rfl,rfl,by decide +kernel,rfl,by decide +kernel,by decide +kernel⟩
theorem ok_cell{f:Addr}{fd:FuncData}(F:Fun K "_law_cell_at" "_law_cell_at" sCell f fd)(T:Txt mg):FnOk P w K mg base CX0 1 f fd ["_law_script","_law_k"] (spCell K):=by
 refine F.ok scCell (fun vs H Q E h=>?_) (fun cdv A outer s H vs Q E hr h=>?_)
 ·obtain⟨a,ns,k,rfl,_⟩:=h
  rfl
 ·obtain⟨a,ns,k,rfl,hS,q⟩:=h
  refine⟨_,pss_cons (ps_if (pt_cmpR op_lt (pv 1) (pe_callB call_len_seq (by rfl) T.len PySem.boot_len (pa_cons (pv 0) pa_nil)) (nomark _)) (pss_one (ps_ret (pe_ix ix_list (pv 0) (pv 1) (fun _ _=>rfl)))) pss_nil) (pss_one (ps_ret pe_int)),?_⟩
  refine⟨_,rfl,_,rfl,a,_,rfl,.inl hS,_,_,rfl,rfl,_,rfl,?_⟩
  refine ite2 (fun hk=>?_) (fun _=>?_)
  ·have hk':k<ns.length:=by
    have:=of_decide_eq_true hk
    rw[List.length_map]at this
    lia
   exact⟨_,rfl,_,rfl,a,_,_,_,rfl,rfl,hS,atI_nat (v:=V.int ns[k]) (by rw[List.getElem?_map,List.getElem?_eq_getElem hk'];rfl),q _⟩
  ·exact q _
theorem scBox:FnScope ["_law_script","_law_k","_law_cell"] ["_law_script","_law_k"] (defScope sBox):=⟨rfl,rfl,rfl,by decide +kernel,rfl,by decide +kernel,by decide +kernel⟩
theorem ok_box{f g:Addr}{fd gd:FuncData}(F:Fun K "_law_box" "_law_box" sBox f fd)(T:Txt mg)(G:Fun K "_law_cell_at" "_law_cell_at" sCell g gd)(mG:mg "_law_cell_at" = some (.ref g))(bG:Binds K gd ["_law_script","_law_k"] []):FnOk P w K mg base CX0 2 f fd ["_law_script","_law_k"] (spBox K):=by
 refine F.ok scBox (fun vs H Q E h=>?_) (fun cdv A outer s H vs Q E hr h=>?_)
 ·obtain⟨a,ns,k,rfl,_⟩:=h
  rfl
 ·obtain⟨a,ns,k,rfl,hS,q⟩:=h
  have GG:FnOk P w K mg base CX0 1 g gd ["_law_script","_law_k"] (spCell K):=ok_cell G T
  refine⟨_,pss_cons (ps_set (i:=2) scBox.nd rfl (Or.inl rfl) (pe_call GG hr rfl mG G.kp bG .nil pass0 (pa_cons (pv 0) (pa_cons (pv 1) pa_nil))))
   (pss_one (ps_ret (pe_lst (pa_cons (pe_op op_mul (pe_callB call_abs (by rfl) T.abs boot_abs (pa_cons (pv 2) pa_nil)) (pe_callTy call_int1 (by rfl) T.int boot_int (pa_cons (pe_cmpR op_ge (pe_callB call_abs (by rfl) T.abs boot_abs (pa_cons (pv 2) pa_nil)) (pe_op op_pow pe_int pe_int) (nomark _)) pa_nil)))
    (pa_cons (pe_op op_add (pe_op op_add (pe_op op_mod (pv 2) pe_int) (pe_op op_mul pe_int (pv 1))) pe_int) (pa_cons pe_int pa_nil)))))),?_⟩
  refine⟨_,rfl,_,rfl,a,ns,k,rfl,hS,fun z=>?_⟩
  refine⟨_,rfl,_,rfl,_,rfl,_,rfl,_,_,rfl,rfl,⟨by decide,by decide,by decide⟩,_,_,rfl,rfl,.inr ⟨_,rfl,_,_,rfl,rfl,.inr ?_,_,rfl,_,_,rfl,rfl,(by show(0:Int)<2305843009213693951;decide),_,rfl,_,_,rfl,rfl,.inl ⟨by decide,by decide⟩,_,_,rfl,rfl,_,_,rfl,rfl,(by show 3<=sizeLine;decide),fun p hp=>?_⟩⟩
  ·exact b01 _
  ·refine q p _ hp ⟨_,_,_,upd_same,?_,by decide,by decide⟩ (Kept.new hp)
   refine Int.mul_nonneg ?_ ?_
   ·split <;> lia
   ·exact b0 _
theorem scTake:FnScope ["_law_box_here","_law_many_here","_law_found","_law_once","_law_twice"] ["_law_box_here","_law_many_here"] (defScope sTake):=⟨rfl,rfl,rfl,by decide +kernel,rfl,by decide +kernel,by decide +kernel⟩
theorem ok_take{f:Addr}{fd:FuncData}(F:Fun K "_law_take" "_law_take" sTake f fd):FnOk P w K mg base CX0 1 f fd ["_law_box_here","_law_many_here"] spTake:=by
 refine F.ok scTake (fun vs H Q E h=>?_) (fun cdv A outer s H vs Q E hr h=>?_)
 ·obtain⟨p,m,N,rfl,_⟩:=h
  rfl
 ·obtain⟨p,m,N,rfl,⟨a,b,c,hp,a0,c0,cN⟩,hN,m0,m1,q⟩:=h
  have hS:∀ {x y z:Int}{G:Hp},G p=some (.lst [.int x,.int y,.int z])->SqL K G p [.int x,.int y,.int z]:=fun e=>SqL.of e
  refine⟨_,pss_cons (ps_if (pt_cmpR op_gt (pe_ix ix_list (pv 0) pe_int (fun _ _=>rfl)) pe_int (nomark _))
    (pss_cons (ps_set (i:=2) scTake.nd rfl (Or.inl rfl) (pe_op op_mod (pe_ix ix_list (pv 0) pe_int (fun _ _=>rfl)) (pv 1)))
     (pss_cons (ps_asg (pe_op op_fdiv (pe_ix ix_list (pv 0) pe_int (fun _ _=>rfl)) (pv 1)) (pg_sub (pv 0) pe_int set_list))
     (pss_one (ps_ret (pv 2))))) pss_nil)
   (pss_cons (ps_asg (pe_op op_add (pe_ix ix_list (pv 0) pe_int (fun _ _=>rfl)) pe_int) (pg_sub (pv 0) pe_int set_list))
   (pss_cons (ps_set (i:=3) scTake.nd rfl (Or.inl rfl) (pe_op op_mod (pe_op op_mul (pe_op op_add (pe_ix ix_list (pv 0) pe_int (fun _ _=>rfl)) (pe_op op_mul pe_int (pe_ix ix_list (pv 0) pe_int (fun _ _=>rfl)))) (pe_op op_add pe_int (pe_ix ix_list (pv 0) pe_int (fun _ _=>rfl)))) pe_int))
   (pss_cons (ps_set (i:=4) scTake.nd rfl (Or.inl rfl) (pe_op op_mod (pe_op op_mul (pe_op op_add (pv 3) (pe_ix ix_list (pv 0) pe_int (fun _ _=>rfl))) (pe_op op_add (pe_op op_mod (pv 3) pe_int) pe_int)) pe_int))
   (pss_one (ps_ret (pe_op op_mod (pe_op op_fdiv (pe_op op_mod (pe_op op_add (pe_op op_mul (pv 4) pe_int) (pv 3)) pe_int) pe_int) (pv 1))))))),?_⟩
  refine⟨_,rfl,p,_,_,_,rfl,rfl,hS hp,rfl,_,_,rfl,rfl,_,rfl,?_⟩
  refine ite2 (fun hk=>?_) (fun _=>?_)
  ·have pos:0<a:=of_decide_eq_true hk
   refine⟨_,rfl,p,_,_,_,rfl,rfl,hS hp,rfl,_,rfl,_,_,rfl,rfl,m0,?_⟩
   refine⟨_,rfl,p,_,_,_,rfl,rfl,hS hp,rfl,_,rfl,_,_,rfl,rfl,⟨m0,m1⟩,_,rfl,p,_,_,_,rfl,rfl,hp,rfl,_,rfl,?_⟩
   refine q _ _ (Int.emod_nonneg _ (by lia)) (Int.emod_lt_of_pos _ m0) ⟨_,_,_,upd_same,Int.ediv_nonneg a0 (by lia),c0,by lia⟩ Kept.at
  ·refine⟨_,rfl,p,_,_,_,rfl,rfl,hS hp,rfl,_,_,rfl,rfl,_,rfl,p,_,_,_,rfl,rfl,hp,rfl,?_⟩
   have g1:(upd H p (.lst [.int a,.int b,.int (c+1)])) p=some (.lst [.int a,.int b,.int (c+1)]):=upd_same
   refine⟨_,rfl,p,_,_,_,rfl,rfl,hS g1,rfl,_,rfl,p,_,_,_,rfl,rfl,hS g1,rfl,_,_,rfl,rfl,.inl ⟨by decide,by decide⟩,_,_,rfl,rfl,_,rfl,p,_,_,_,rfl,rfl,hS g1,rfl,_,_,rfl,rfl,_,_,rfl,rfl,.inr ⟨by lia,by lia⟩,_,_,rfl,rfl,(by show(0:Int)<2147483647;decide),?_⟩
   generalize ho:(b+48271 * (c+1)) * (39373+(c+1)) % 2147483647=once
   have o0:0<=once:=by rw[<- ho];exact Int.emod_nonneg _ (by decide)
   have o1:once<2147483647:=by rw[<- ho];exact Int.emod_lt_of_pos _ (by decide)
   refine⟨_,rfl,_,rfl,p,_,_,_,rfl,rfl,hS g1,rfl,_,_,rfl,rfl,_,rfl,_,_,rfl,rfl,(by show(0:Int)<40009;decide),_,_,rfl,rfl,_,_,rfl,rfl,.inl ⟨by lia,by lia⟩,_,_,rfl,rfl,(by show(0:Int)<2147483629;decide),?_⟩
   generalize ht:(once+(c+1)) * (once % 40009+7) % 2147483629=twice
   have t0:0<=twice:=by rw[<- ht];exact Int.emod_nonneg _ (by decide)
   have t1:twice<2147483629:=by rw[<- ht];exact Int.emod_lt_of_pos _ (by decide)
   refine⟨_,rfl,_,_,rfl,rfl,.inl ⟨by lia,by lia⟩,_,rfl,_,_,rfl,rfl,_,_,rfl,rfl,(by show(0:Int)<2147483587;decide),_,_,rfl,rfl,⟨by decide,by decide⟩,_,rfl,_,_,rfl,rfl,m0,?_⟩
   exact q _ _ (Int.emod_nonneg _ (by lia)) (Int.emod_lt_of_pos _ m0) ⟨_,_,_,g1,a0,by lia,by lia⟩ Kept.at
theorem scMany:FnScope ["_law_box_here","_law_least","_law_few","_law_most"] ["_law_box_here","_law_least","_law_few","_law_most"] (defScope sMany):=⟨rfl,rfl,rfl,by decide +kernel,rfl,by decide +kernel,by decide +kernel⟩
structure TakeF(P:Program)(w:World)(K:PySem.W.Frag)(mg:Str->Option Value)(base:Heap)(g:Addr)(gd:FuncData):Prop where
 ok:FnOk P w K mg base CX0 1 g gd ["_law_box_here","_law_many_here"] spTake
 mg:mg "_law_take" = some (.ref g)
 kp:PySem.W.keepIn K (.ref g)=true
 bd:Binds K gd ["_law_box_here","_law_many_here"] []
theorem ok_many{f g:Addr}{fd gd:FuncData}(F:Fun K "_law_many" "_law_many" sMany f fd)(G:TakeF P w K mg base g gd):FnOk P w K mg base CX0 2 f fd ["_law_box_here","_law_least","_law_few","_law_most"] spMany:=by
 refine F.ok scMany (fun vs H Q E h=>?_) (fun cdv A outer s H vs Q E hr h=>?_)
 ·obtain⟨p,l,f,m,N,rfl,_⟩:=h
  rfl
 ·obtain⟨p,l,f,m,N,rfl,B,hN,lf,m7,fl,mm,q⟩:=h
  refine⟨_,pss_cons (ps_if (pt_cmpR op_eq (pe_call G.ok hr rfl G.mg G.kp G.bd .nil pass0 (pa_cons (pv 0) (pa_cons pe_int pa_nil))) pe_int (nomark _))
   (pss_one (ps_ret (pe_op op_add pe_int (pe_call G.ok hr rfl G.mg G.kp G.bd .nil pass0 (pa_cons (pv 0) (pa_cons (pe_op op_sub (pv 3) pe_int) pa_nil)))))) pss_nil)
   (pss_one (ps_ret (pe_op op_add (pv 1) (pe_call G.ok hr rfl G.mg G.kp G.bd .nil pass0 (pa_cons (pv 0) (pa_cons (pe_op op_add (pe_op op_sub (pv 2) (pv 1)) pe_int) pa_nil)))))),?_⟩
  refine⟨_,rfl,p,_,N,rfl,B,by lia,by decide,by decide,fun z H1 z0 z1 B1 k1=>⟨rfl,_,rfl,?_⟩⟩
  refine ite2 (fun _=>?_) (fun _=>?_)
  ·refine⟨_,rfl,_,rfl,_,_,rfl,rfl,p,_,N+1,rfl,B1,by lia,by lia,by lia,fun y H2 y0 y1 B2 k2=>⟨_,_,rfl,rfl,?_⟩⟩
   exact q _ _ (.inr ⟨by lia,by lia⟩) B2 (k1.trans k2)
  ·refine⟨_,rfl,_,rfl,_,rfl,_,rfl,_,_,rfl,rfl,_,_,rfl,rfl,p,_,N+1,rfl,B1,by lia,by lia,by lia,fun y H2 y0 y1 B2 k2=>⟨_,_,rfl,rfl,?_⟩⟩
   exact q _ _ (.inl ⟨by lia,by lia⟩) B2 (k1.trans k2)
theorem scWeight:FnScope ["_law_box_here","_law_heavy"] ["_law_box_here","_law_heavy"] (defScope sWeight):=⟨rfl,rfl,rfl,by decide +kernel,rfl,by decide +kernel,by decide +kernel⟩
theorem ok_weight{f g:Addr}{fd gd:FuncData}(F:Fun K "_law_weight" "_law_weight" sWeight f fd)(G:TakeF P w K mg base g gd):FnOk P w K mg base CX0 2 f fd ["_law_box_here","_law_heavy"] spWeight:=by
 refine F.ok scWeight (fun vs H Q E h=>?_) (fun cdv A outer s H vs Q E hr h=>?_)
 ·obtain⟨p,h,N,rfl,_⟩:=h
  rfl
 ·obtain⟨p,h,N,rfl,h4,B,hN,q⟩:=h
  refine⟨_,pss_one (ps_ret (pe_op op_add pe_int (pe_call G.ok hr rfl G.mg G.kp G.bd .nil pass0 (pa_cons (pv 0) (@pa_sub _ _ _ _ _ _ _
   (@pe_ix _ _ _ _ _ _ _ ix_list (@pe_lst _ _ _ _ (@pa_cst _ _ _ _ _ _ _ pe_int (@pa_cst _ _ _ _ _ _ _ pe_int (@pa_cst _ _ _ _ _ _ _ pe_int (@pa_sub _ _ _ _ _ _ _ (@pe_ix _ _ _ _ _ _ _ ix_list (@pe_lst _ _ _ _ (@pa_cst _ _ _ _ _ _ _ pe_int (@pa_cst _ _ _ _ _ _ _ pe_int (@pa_bin _ _ _ _ _ _ _ _ (pe_op op_pow pe_int pe_int) pa_nil)))) (pe_call G.ok hr rfl G.mg G.kp G.bd .nil pass0 (pa_cons (pv 0) (pa_cons pe_int pa_nil))) (fun _ _=>rfl)) pa_nil))))) (pv 1) (fun _ _=>rfl)) pa_nil))))),?_⟩
  refine⟨_,rfl,10,9,rfl,rfl,⟨by decide,by decide,by decide⟩,?_⟩
  refine⟨(by show 3<=sizeLine;decide),fun l hl=>?_⟩
  refine⟨_,rfl,p,_,N,rfl,B.new hl,by lia,by decide,by decide,fun z H1 z0 z1 B1 k1=>?_⟩
  have lp:l≠p:=fun e=>by
   obtain⟨a,b,c,e1,_⟩:=B
   rw[e,e1]at hl
   cases hl
  have el:=k1 l _ lp upd_same
  obtain⟨zn,rfl⟩:∃ zn:Nat,z=(zn:Int):=⟨z.toNat,by lia⟩
  have e9:((10:Int) ^ (Int.toNat 9))=1000000000:=by decide +kernel
  dsimp only at el
  rw[e9]at el
  have h3:zn<3:=by lia
  obtain⟨v,hv,v0,v1⟩:∃ v:Int,[V.int 10,V.int 100,V.int 1000000000][zn]?=some (V.int v)/\0<v/\v<1073741824:=by
   match zn,h3 with
   | 0,_=>exact⟨_,rfl,by decide,by decide⟩
   | 1,_=>exact⟨_,rfl,by decide,by decide⟩
   | 2,_=>exact⟨_,rfl,by decide,by decide⟩
  refine⟨l,_,_,_,rfl,rfl,SqL.of el,atI_nat hv,(by show 4<=sizeLine;decide),fun l2 hl2=>?_⟩
  obtain⟨v',hv',v0',v1'⟩:∃ v':Int,[V.int 1,V.int 3,V.int 9,V.int v][h]?=some (V.int v')/\0<v'/\v'<1073741824:=by
   match h,h4 with
   | 0,_=>exact⟨_,rfl,by decide,by decide⟩
   | 1,_=>exact⟨_,rfl,by decide,by decide⟩
   | 2,_=>exact⟨_,rfl,by decide,by decide⟩
   | 3,_=>exact⟨_,rfl,v0,v1⟩
  refine⟨_,rfl,l2,_,_,_,rfl,rfl,SqL.of upd_same,atI_nat hv',p,_,N+1,rfl,B1.new hl2,by lia,v0',v1',fun y H2 y0 y1 B2 k2=>⟨_,_,rfl,rfl,?_⟩⟩
  exact q _ _ (by lia) B2 ((Kept.new hl).trans (k1.trans ((Kept.new hl2).trans k2)))
end
noncomputable abbrev Tie:=Int×Int×Int
noncomputable def tieV(x:Tie):List V:=[.int x.1,.int x.2.1,.int x.2.2]
structure WebAt(H:Hp)(t:Addr)(n:Nat)(ties:List Tie):Prop where
 ex:∃ (ts:Addr) (as:List Addr),H t=some (.tup [.int n,.ref ts])/\H ts=some (.tup (as.map V.ref))/\Paired (fun a x=>H a=some (.tup (tieV x))) as ties
 len:ties.length<=120
theorem WebAt.same{H H':Hp}{t:Addr}{n:Nat}{ties:List Tie}(W:WebAt H t n ties)(s:Same H H'):WebAt H' t n ties:=by
 obtain⟨⟨ts,as,h1,h2,h3⟩,l⟩:=W
 exact⟨⟨ts,as,s _ _ h1,s _ _ h2,Paired.mapP h3 fun a x e=>s _ _ e⟩,l⟩
theorem flat_ints(ns:List Int):(ns.map V.int).all flatV=true:=by
 rw[List.all_map,List.all_eq_true]
 intro x _
 rfl
theorem inV_ints(z:Int):∀ ns:List Int,inV (V.int z) (ns.map V.int)=ns.contains z
 |[]=>rfl
 |n :: ns=>by
  have ih:=inV_ints z ns
  unfold inV at ih ⊢
  rw[List.map_cons,List.any_cons,ih,List.contains_cons]
  congr 1
  show(n == z)=(z == n)
  exact Bool.beq_comm
theorem Kept.free{p l:Addr}{H H':Hp}{M:Nat}(k:Kept p H H')(B:BoxAt H' p M)(h:H' l=none):H l=none:=by
 cases e:H l with
 |none=>rfl
 |some o =>
  by_cases lp:l=p
  ·obtain⟨a,b,c,e1,_⟩:=B
   rw[lp,e1]at h
   cases h
  ·rw[k l o lp e]at h
   cases h
theorem BoxAt.ne{H:Hp}{p l:Addr}{N:Nat}(B:BoxAt H p N)(h:H l=none):l≠p:=fun e=>by
 obtain⟨a,b,c,e1,_⟩:=B
 rw[e,e1]at h
 cases h
theorem Kept.put{p d:Addr}{H H':Hp}{o:HO}(k:Kept p H H')(h:H d=none):Kept p H (upd H' d o):=fun b u n e=>by
 rw[upd_ne (ne_of_none e h)]
 exact k b u n e
theorem BoxAt.put{H:Hp}{p d:Addr}{N:Nat}{o:HO}(B:BoxAt H p N)(h:d≠p):BoxAt (upd H d o) p N:=by
 obtain⟨a,b,c,e,r⟩:=B
 exact⟨a,b,c,by rw[upd_ne (Ne.symm h)];exact e,r⟩
theorem tTru_if{σ:L2.St}{H:Hp}{A B:Hp->Prop}(h:A H):tTru σ H (fun b H3=>if b=true then A H3 else B H3):=by
 show if true=true then A H else B H
 exact iteT h
theorem Paired.snoc{α β:Type}{F:α->β->Prop}:∀ {l₁:List α}{l₂:List β}{a:α}{b:β},Paired F l₁ l₂->F a b->Paired F (l₁++[a]) (l₂++[b]):=by
 intro l ks a b h r
 induction h with
 |nil=>exact .cons r .nil
 |cons q t ih=>exact .cons q ih
noncomputable def TieOk(n:Nat)(x:Tie):Prop:=0<=x.1/\x.1<x.2.1/\x.2.1<n/\1<=x.2.2/\x.2.2<=1073741824
noncomputable def tieLt(x y:Tie):Prop:=Srt.lexlt [x.1,x.2.1] [y.1,y.2.1]=true
structure WeightF(P:Program)(w:World)(K:PySem.W.Frag)(mg:Str->Option Value)(base:Heap)(g:Addr)(gd:FuncData):Prop where
 ok:FnOk P w K mg base CX0 2 g gd ["_law_box_here","_law_heavy"] spWeight
 mg:mg "_law_weight" = some (.ref g)
 kp:PySem.W.keepIn K (.ref g)=true
 bd:Binds K gd ["_law_box_here","_law_heavy"] []
end K40
namespace L2
open PySem PySem.W PyProof.Rows Srt
open PySem PySem.Spec PySem.W PyProof.Rows
open PySem PySem.Spec PySem.W PyProof.Rows
open PySem PySem.Spec PySem.W PyProof.Rows
open PySem PySem.W PyProof.Rows
mutual
noncomputable def py:Dt->PyData
 | .non=>.none
 | .bl b=>.bool b
 | .int i=>.int i
 | .str x=>.str x
 | .lst ds=>.list (pys ds)
 | .tup ds=>.tuple (pys ds)
noncomputable def pys:List Dt->List PyData
 |[]=>[]
 |d :: ds=>py d :: pys ds
end
mutual
noncomputable def szD:Dt->Nat
 | .non=>4
 | .bl _=>5
 | .int _=>102
 | .str x=>10 * x.length+2
 | .lst ds=>3+szs ds
 | .tup ds=>3+szs ds
noncomputable def szs:List Dt->Nat
 |[]=>0
 |d :: ds=>szD d+2+szs ds
end
mutual
noncomputable def okD:Dt->Prop
 | .non=>True
 | .bl _=>True
 | .int i=>i.natAbs<2 ^ 100
 | .str x=>∀ c∈x.cps.toList,c<16 ^ 8
 | .lst ds=>okDs ds
 | .tup ds=>okDs ds
noncomputable def okDs:List Dt->Prop
 |[]=>True
 |d :: ds=>okD d/\okDs ds
end
theorem len_textFrom:∀ (ts:List Str) (k:Nat) (acc:Str),(textFrom k acc ts).length<=acc.length+(ts.map fun t=>t.length+2).sum
 |[],k,acc=>by show acc.length<=_;simp
 |t :: r,k,acc=>by
  have ih:=len_textFrom r (k+1) (acc++(if k > 0 then ", " else "":String)++t)
  show(textFrom (k+1) (acc++(if k > 0 then ", " else "":String)++t) r).length<=_
  have e:(acc++(if k > 0 then ", " else "":String)++t).length<=acc.length+(t.length+2):=by
   rw[Str.length_append,Str.length_append]
   split
   ·show acc.length+2+t.length<=_;omega
   ·show acc.length+0+t.length<=_;omega
  rw[List.map_cons,List.sum_cons]
  omega
theorem len_join:∀ ts:List Str,(Str.join ", " ts).length<=(ts.map fun t=>t.length+2).sum
 |[]=>Nat.zero_le _
 |[x]=>by
  show x.length<=_
  simp
 |x :: y :: r=>by
  have ih:=len_join (y :: r)
  have e:=join_length_add (x :: y :: r) (by simp)
  have e2:=join_length_add (y :: r) (by simp)
  have e3:piled (x :: y :: r)=x.length+2+piled (y :: r):=by simp[piled];try omega
  rw[List.map_cons,List.sum_cons]
  omega
theorem len_int{i:Int}(h:i.natAbs<2 ^ 100):(PyData.int i).shown.length<=102:=by
 have lg:i.natAbs.log2<100:=by
  by_cases z:i.natAbs=0
  ·rw[z];decide
  ·exact(Nat.log2_lt z).mpr h
 show(Str.ofString (toString i)).length<=102
 rw[PySem.ofString_length]
 have:=int_text_length_le (a:=i) (k:=100) (by decide) lg
 omega
mutual
theorem len_shown:∀ d:Dt,okD d->(py d).shown.length<=szD d
 | .non,_=>by show(Str.ofString "None").length<=4;decide +kernel
 | .bl b,_=>by cases b <;> (show Str.length _<=5;decide +kernel)
 | .int i,h=>len_int h
 | .str x,h=>StrLaws.reprText_len x h
 | .lst ds,h=>by
  have:=len_all ds h
  have e:=len_textFrom (PyData.shownAll (pys ds)) 0 "["
  show(textFrom 0 "[" (PyData.shownAll (pys ds))++"]").length<=3+szs ds
  rw[Str.length_append]
  have b1:(Str.ofString "[").length=1:=rfl
  have b2:(Str.ofString "]").length=1:=rfl
  omega
 | .tup ds,h=>by
  have:=len_all ds h
  have e:=len_join (PyData.shownAll (pys ds))
  show(("(":Str)++Str.join ", " (PyData.shownAll (pys ds))++(if(PyData.shownAll (pys ds)).length == 1 then ",)" else ")":String)).length<=3+szs ds
  rw[Str.length_append,Str.length_append]
  have b1:(Str.ofString "(").length=1:=rfl
  split
  ·have b2:(Str.ofString ",)").length=2:=rfl
   omega
  ·have b2:(Str.ofString ")").length=1:=rfl
   omega
theorem len_all:∀ ds:List Dt,okDs ds->((PyData.shownAll (pys ds)).map fun t=>t.length+2).sum<=szs ds
 |[],_=>Nat.le_refl _
 |d :: ds,h=>by
  have h1:=len_shown d h.1
  have h2:=len_all ds h.2
  show((py d).shown.length+2+((PyData.shownAll (pys ds)).map fun t=>t.length+2).sum)<=szD d+2+szs ds
  omega
end
mutual
theorem showable_py:∀ d:Dt,okD d->(py d).showable=true
 | .non,_=>rfl
 | .bl _,_=>rfl
 | .int i,h=>by
  have h:i.natAbs<2 ^ 100:=h
  show decide (i.natAbs.log2<1920)=true
  refine decide_eq_true ?_
  by_cases z:i.natAbs=0
  ·rw[z];decide
  ·have:=(Nat.log2_lt z).mpr h
   omega
 | .str _,_=>rfl
 | .lst ds,h=>by show PyData.showableAll (pys ds)=true;exact showable_all ds h
 | .tup ds,h=>by show PyData.showableAll (pys ds)=true;exact showable_all ds h
theorem showable_all:∀ ds:List Dt,okDs ds->PyData.showableAll (pys ds)=true
 |[],_=>rfl
 |d :: ds,h=>by
  show((py d).showable && PyData.showableAll (pys ds))=true
  rw[showable_py d h.1,showable_all ds h.2]
  rfl
end
mutual
theorem nodict_py:∀ d:Dt,(py d).hasDict=false
 | .non=>rfl
 | .bl _=>rfl
 | .int _=>rfl
 | .str _=>rfl
 | .lst ds=>by show PyData.hasDictAll (pys ds)=false;exact nodict_all ds
 | .tup ds=>by show PyData.hasDictAll (pys ds)=false;exact nodict_all ds
theorem nodict_all:∀ ds:List Dt,PyData.hasDictAll (pys ds)=false
 |[]=>rfl
 |d :: ds=>by
  show((py d).hasDict || PyData.hasDictAll (pys ds))=false
  rw[nodict_py d,nodict_all ds]
  rfl
end
section
variable{X:Cx}{pins:List (Addr×Obj)}{σ:St}{H:Hp}{s:Shared}
theorem reads_all{n:Nat}(f:∀ v u d,Dat H n v d->RelV v u->∃ as,Reads s.heap u (py d) as/\(py d).depth<=n):∀ {xs:List V}{us:List Value}{ds:List Dt},Vals xs us->Paired (Dat H n) xs ds->∃ as,ReadsAll s.heap us (pys ds) as/\PyData.depthAll (pys ds)<=n
 | _,_,_,.nil,.nil=>⟨_,.nil,Nat.zero_le _⟩
 | _,_,_,.cons r rs,.cons p ps=>by
  obtain⟨a1,h1,e1⟩:=f _ _ _ p r
  obtain⟨a2,h2,e2⟩:=reads_all f rs ps
  exact⟨_,.cons h1 h2,by show max _ _<=n;omega⟩
theorem reads_of(I:Inv X pins σ H s):∀ (n:Nat) (v:V) (u:Value) (d:Dt),Dat H n v d->RelV v u->∃ as,Reads s.heap u (py d) as/\(py d).depth<=n
 | 0,v,u,d,h,r=>by
  cases d with
  |non=>cases(show v = .non from h);cases r;exact⟨_,.none,Nat.le_refl _⟩
  |bl b=>cases(show v = .bl b from h);cases r;exact⟨_,.bool b,Nat.le_refl _⟩
  |int i=>cases(show v = .int i from h);obtain⟨t,rfl⟩:=r;exact⟨_,.int i t,Nat.le_refl _⟩
  |str x=>cases(show v = .str x from h);obtain⟨t,rfl⟩:=r;exact⟨_,.str x t,Nat.le_refl _⟩
  |lst _=>exact(show False from h).elim
  |tup _=>exact(show False from h).elim
 |n+1,v,u,d,h,r=>by
  cases d with
  |non=>cases(show v = .non from h);cases r;exact⟨_,.none,Nat.zero_le _⟩
  |bl b=>cases(show v = .bl b from h);cases r;exact⟨_,.bool b,Nat.zero_le _⟩
  |int i=>cases(show v = .int i from h);obtain⟨t,rfl⟩:=r;exact⟨_,.int i t,Nat.zero_le _⟩
  |str x=>cases(show v = .str x from h);obtain⟨t,rfl⟩:=r;exact⟨_,.str x t,Nat.zero_le _⟩
  |lst ds =>
   obtain⟨a,xs,rfl,_,ha,ps⟩:=(show ∃ a xs,v = .ref a/\xs.length<=1000/\H a=some (.lst xs)/\Paired (Dat H n) xs ds from h)
   cases r
   obtain⟨_,its,c,rv,e⟩:=I.hok a _ ha
   obtain⟨as,h1,e1⟩:=reads_all (fun v u d=>reads_of I n v u d) rv ps
   exact⟨_,.list e rfl rfl (by simpa using h1),by show PyData.depthAll _+1<=n+1;omega⟩
  |tup ds =>
   obtain⟨a,xs,rfl,_,ha,ps⟩:=(show ∃ a xs,v = .ref a/\xs.length<=1000/\H a=some (.tup xs)/\Paired (Dat H n) xs ds from h)
   cases r
   obtain⟨_,its,rv,o,e,ec,c,ed⟩:=I.hok a _ ha
   obtain⟨as,h1,e1⟩:=reads_all (fun v u d=>reads_of I n v u d) rv ps
   exact⟨_,.tuple e ec ed (by simpa using h1),by show PyData.depthAll _+1<=n+1;omega⟩
end
theorem call_strD{X:Cx}(hg:X.A.guards=some [])(hu:X.A.units+64<cLine):CallR X (.type "str") (fun xs H Q=>∃ a n d,xs=[.ref a]/\Dat H n (.ref a) d/\n<=50/\okD d/\szD d<=sizeLine/\Q (.str (py d).shown) H):=by
 intro pins s σ H xs us Q I r h
 obtain⟨a,n,d,rfl,hd,hn,ok,sz,q⟩:=h
 obtain⟨u,rfl,rx⟩:=Vals.one r
 cases rx
 obtain⟨as,hr,e⟩:=reads_of I n _ _ d hd rfl
 refine str_of_reads hr (showable_py d ok) (PyData.noDict_hsm (nodict_py d)) hg (by omega) (fun _ _ e=>e) (fun h' t tk kp=>⟨.str (py d).shown,H,I.kept (t':=tk) kp,⟨_,rfl⟩,q⟩) (Nat.le_trans (len_shown d ok) sz)
open PySem PyProof.Rows
section
variable{K:PySem.W.Frag}{a D:Addr}{xs:List V}{b:Bool}{g:TG}{tc:TT}{tk tv:TE}{cap:List (Option Nat)}{σ:St}{H1:Hp}{Q:VK}
noncomputable def ItB(b:Bool)(K:PySem.W.Frag)(a:Addr):It:=match b with
 |true=>Itt K a
 |false=>Itl K a
noncomputable def iSeq(b:Bool)(K:PySem.W.Frag)(tl:TE):TI:=fun σ H R=>tl σ H fun x H1=>∃ a,x = .ref a/\(∃ xs,SqB b K H1 a xs)/\R (ItB b K a) H1
theorem pi_seq{X:Cx}{tg l:Expr}{tl:TE}(b:Bool)(hl:PE X l tl):PI X tg l (iSeq b X.K tl):=by
 cases b
 ·exact pi_list hl
 ·exact pi_tup hl
theorem Same.seqB{H H':Hp}(s:Same H H')(h:SqB b K H a xs):SqB b K H' a xs:=by
 cases b
 ·exact s.seq h
 ·exact s.tupq h
end
open PySem PySem.Spec PySem.W PyProof.Rows
open PySem PySem.W PyProof.Rows Srt
theorem drawsK{prog:Program}{w:World}{A:Around}(hh:A.handled=none)(b:Bool)(it l:Addr)(hne:l≠it)(items:Array Value):Draws prog w A it [it,l] items.size (fun i v=>items[i]?=some v) (fun i h=>ItK b h it l i/\SeqK b h l items)where
 live:=fun _ _ st=>let ⟨o,ho,_⟩:=st.1.lt;⟨o,ho⟩
 frame:=fun _ _ _ st hk=>⟨st.1.to fun o e=>hk it (by simp) o e,st.2.to fun o e=>hk l (by simp) o e⟩
 item:=fun i s Q E hi st hQ=>nextK_item st.1 st.2 (x:=items[i]) (by simp[hi]) fun h' hit' hs'=>hQ _ h' s.toks (by simp[hi]) ⟨hit',st.2.to fun o e=>hs'.extBut _ _ hne e⟩ hs'
 done:=fun s Q E st hE=>nextK_end hh st.1 st.2 (by simp) hE
noncomputable abbrev enO(it:Addr):Obj:={ cls:=.type "enumerate",data:=.fields #[.none,.bool false,.ref it,rawInt 0,.none,.none] }
theorem enumK_new(b:Bool)(l:Addr)(xs:Array Value):Meets (Builtin.«enumerate.__new__» ⟨[.type "enumerate",.ref l],[]⟩) (fun _ R s=>SeqK b s.heap l xs/\R (.ok (.ret (.ref (s.heap.push (itO b l)).objs.size))) { s with heap:=(s.heap.push (itO b l)).push (enO s.heap.objs.size) }) :=
 .of_wp fun prog w A R s h=>by
  obtain⟨hp,g,d,tk,os⟩:=s
  obtain⟨hl,h⟩:=h
  have hsub:=sub_enumerate
  have hL:SeqK b (Shared.heap ⟨hp,g,d,tk,os⟩) l xs:=hl
  wp_walk using pyIterK hL
  refine wpAny_stack_any fun st=>wpAny_pure ?_
  split
  ·rename_i c _ _ _ _ _
   cases(c == Value.type "enumerate") <;> (wp_walk using pyIterK hL;exact⟨_,rfl,h⟩)
  ·wp_walk using pyIterK hL
   exact⟨_,rfl,h⟩
theorem call_enumK{prog:Program}{w:World}{A:Around}{E:Value->Shared->Prop}{s:Shared}{b:Bool}{l:Addr}{items:Array Value}{Q:Value->Shared->Prop}(hL:SeqK b s.heap l items)
  (h:∀ h',IsEnum h' (s.heap.objs.size+1) s.heap.objs.size 0 .none->ItK b h' s.heap.objs.size l 0->(∀ b o,s.heap.get? b=some o->h'.get? b=some o)->Q (.ref (s.heap.objs.size+1)) { s with heap:=h' }):wpAny (model prog w) A (call (.type "enumerate") [.ref l]) Q E s:=by
 refine callType_new F.called_enumerate (by decide) (F.typeCall_enumerate_1 _) (F.newCall_enumerate_1 _) (fun obj=>F.args_object_init_2 obj _) F.entry_enumerate_new (enumK_new b l items) ⟨hL,?_⟩
 have hz:(s.heap.push (itO b l)).objs.size=s.heap.objs.size+1:=Heap.size_push ..
 show _/\_
 rw[hz]
 have he:IsEnum ((s.heap.push (itO b l)).push (enO s.heap.objs.size)) (s.heap.objs.size+1) s.heap.objs.size 0 .none:=by
  have:=Heap.get?_push_size (s.heap.push (itO b l)) (o:=enO s.heap.objs.size) rfl
  rw[hz]at this
  exact this
 exact⟨⟨_,he,rfl⟩,h _ he ((ItK.new s.heap).to fun o e=>Heap.get?_push_of_some _ e) fun b o x=>Heap.get?_push_of_some _ (Heap.get?_push_of_some _ x)⟩
theorem enumK_end{prog:Program}{w:World}{A:Around}{E:Value->Shared->Prop}{s:Shared}{b:Bool}{e it l:Addr}{i:Nat}{items:Array Value}{old:Value}{Q:Option Value->Shared->Prop}(hh:A.handled=none)(he:IsEnum s.heap e it i old)(hit:ItK b s.heap it l i)(hl:SeqK b s.heap l items)(hx:items[i]?=none)
  (q:∀ g,Heap.ExtBut it s.heap g->Q none { s with heap:=g }):wpAny (model prog w) A (pyNext (.ref e)) Q E s:=by
 have ty:s.TypeIs (.ref e) "enumerate":=⟨_,he,rfl⟩
 unfold pyNext;refine wpAny_bind (wpAny_attempt (wpAny_callSpecial?_slot (name:=Str.ofString "__next__") ty F.slot_enumerate_next (wpAny_call_entry F.slot_enumerate_next ty F.entry_enumerate_next ?_ (F.args_enumerate_next_1 _))))
 show wpAny _ _ (field (.ref e) 2 >>= _) _ _ _;refine wpAny_bind (wpAny_field he rfl (x:=.ref it) rfl (wpAny_bind (nextK_end hh hit hl hx fun g y hg hy=>?_)))
 obtain⟨o,ho,hc⟩:=hy
 refine wpAny_bind (wpAny_isInstance (T:="StopIteration") (b:=true) ⟨o,ho,hc⟩ isSubtype_stop (wpAny_pure (q _ hg)))
noncomputable def IteB(b:Bool)(K:PySem.W.Frag)(l:Addr):It :=
  ⟨fun i H=>∃ xs x,SqB b K H l xs/\xs[i]?=some x,
   fun i H v H'=>∃ T x,v = .ref T/\H T=none/\H'=upd H T (.tup [.int i,x])/\∀ xs,SqB b K H l xs->xs[i]?=some x,
   fun i H=>∃ xs,SqB b K H l xs/\xs.length<=i⟩
theorem turn_enumB(b:Bool){P:Program}{w:World}{K:PySem.W.Frag}{es:List Expr}{kk:Nat}{pos:Pos}(e it l:Addr)(ne:e≠it):Turn P w K (.Tuple es kk pos) (IteB b K l) [e,it] e
  (fun i h=>(∃ old,IsEnum h e it i old)/\ItK b h it l i)where
 mem:=by simp
 obj:=fun i h st b hb=>by
  obtain⟨⟨old,he⟩,h1⟩:=st
  simp only[List.mem_cons,or_false,List.not_mem_nil]at hb
  rcases hb with z | z
  ·rw[z];exact⟨_,he,fun v z=>by cases z⟩
  ·rw[z]
   exact h1.lt
 keep:=fun i h h' st k=>by
  obtain⟨⟨old,he⟩,h1⟩:=st
  exact⟨⟨old,k e (by simp) _ he⟩,h1.to fun o e=>k it (by simp) o e⟩
 item:=by
  intro X hP hw hK hc i pins s σ H E I hf st hg
  subst hP hw hK
  obtain⟨⟨old,he⟩,h1⟩:=st
  obtain⟨xs,x,q1,hx⟩:=hg
  obtain⟨us,r1,p1,_⟩:=I.seqB q1
  obtain⟨u,hu,ru⟩:=r1.get hx
  have hn:H s.heap.objs.size=none:=I.hok.fresh (Nat.le_refl _)
  have lit:l≠it:=I.offB q1 (hf it (by simp))
  have lee:l≠e:=I.offB q1 (hf e (by simp))
  have hlt:i<us.toArray.size:=by rw[List.size_toArray];exact(List.getElem?_eq_some_iff.mp hu).1
  refine wpAny_pyNext_enum_itemD (drawsK (A:=X.A.in1) (I.ok.hd hc) b it l lit us.toArray) he ⟨h1,p1⟩ hlt ne (by simp[ne,Ne.symm lee]) fun u' g tk hP e1 st1 t1 sz kp=>⟨_,rfl,?_⟩
  have eu:u'=u:=by
   have hP:us.toArray[i]?=some u':=hP
   rw[List.getElem?_toArray,hu]at hP
   exact(Option.some.inj hP).symm
  subst eu
  have n1:=st1.1
  refine wpAny_letOwnedTupleGo_enum e1 fun g' e2 sb=>?_
  have zlt:e≠s.heap.objs.size:=Nat.ne_of_lt (Heap.lt_size he)
  have kp2:∀ b o,b∉[e,it]->s.heap.get? b=some o->g'.get? b=some o:=fun b o nb z=>by
   simp only[List.mem_cons,List.not_mem_nil,or_false,not_or]at nb
   exact sb.extBut _ _ nb.1 (kp b o nb.1 nb.2 z)
  have I2:Inv X pins σ (upd H s.heap.objs.size (.tup [.int i,x])) { s with heap:=g',toks:=tk+1 }:=I.turnedN (t':=tk+1) (ch:=[e,it]) (a:=s.heap.objs.size) (ob:=.tup [.int i,x]) hf kp2 (Nat.le_refl _) (show ObjOk X.prog X.w _ g' _ (.tup [.int i,x])from⟨by show 2<=sizeLine;decide,[.int i tk,u'],.cons ⟨_,rfl⟩ (.cons ru .nil),⟨_,sb.extBut _ _ (Ne.symm zlt) t1,rfl,0,rfl⟩⟩)
  refine⟨.ref s.heap.objs.size,_,I2,rfl,⟨_,x,rfl,hn,rfl,fun xs' h=>by rw[I.seqB_inj h q1];exact hx⟩,⟨⟨_,by have e3:=e2;exact_mod_cast e3⟩,n1.to fun o z=>sb.extBut _ _ (Ne.symm ne) z⟩,fun b hb=>?_⟩
  have bo:∃ o,s.heap.get? b=some o:=by
   simp only[List.mem_cons,or_false,List.not_mem_nil]at hb
   rcases hb with z | z
   ·rw[z];exact⟨_,he⟩
   ·rw[z];obtain⟨o,e,_⟩:=h1.lt;exact⟨o,e⟩
  obtain⟨o,z⟩:=bo
  rw[upd_ne (Nat.ne_of_lt (Heap.lt_size z))]
  exact(hf b hb).1
 done:=by
  intro X hP hw hK hc i pins s σ H E I hf st hg
  subst hP hw hK
  obtain⟨⟨old,he⟩,h1⟩:=st
  obtain⟨xs,q1,le⟩:=hg
  obtain⟨us,r1,p1,_⟩:=I.seqB q1
  have e1:=r1.length
  refine enumK_end (I.ok.hd hc) he h1 p1 (by simp;omega) fun g kp=>⟨rfl,?_⟩
  refine I.turnedL (t':=s.toks) (ch:=[e,it]) hf fun b o nb z=>?_
  simp only[List.mem_cons,List.not_mem_nil,or_false,not_or]at nb
  exact kp b o nb.2 z
 self:=fun _ _ _ _ _ st h=>by
  obtain⟨⟨old,he⟩,h1⟩:=st
  exact wpAny_pyIter_enum he h
noncomputable def iEnumB(b:Bool)(K:PySem.W.Frag)(ta:TA):TI:=fun σ H R=>ta σ H fun vs H1=>∃ l,vs=[.ref l]/\(∃ xs,SqB b K H1 l xs)/\R (IteB b K l) H1
theorem pi_enumB(b:Bool){X:Cx}{es:List Expr}{kk:Nat}{tpos:Pos}{a:Expr}{ta:TA}{p pos:Pos}(hg:Gl X "enumerate")(hm:X.mg "enumerate" = none)(ha:PA X [a] ta)(hs:starEach [a] X.env=[(false,eval a X.env)]:=by rfl) :
  PI X (.Tuple es kk tpos) (.Call (.Name "enumerate" p) [a] [] pos) (iEnumB b X.K ta):=by
 intro pins s σ H R I h
 refine Call_ (ld_blt I hg hm boot_enumerate (PyProof.Rows.callWith_type1 (thn (ha pos pins s σ H _ I h) fun us s1 ⟨vs,H1,I1,r1,q1⟩=>?_) (by rw[hs];rfl) (by rfl)))
 obtain⟨l,e,⟨xs,q1⟩,q⟩:=q1
 subst e
 obtain⟨u,rfl,rx⟩:=Vals.one r1
 cases rx
 obtain⟨us,_,p1,_⟩:=I1.seqB q1
 refine call_enumK p1 fun g' e1 h1 kp=>?_
 refine wpAny_pyIter_enum e1 ⟨s1.heap.objs.size+1,_,_,_,H1,rfl,I1.kept (t':=s1.toks) kp,turn_enumB b _ s1.heap.objs.size l (Nat.ne_of_gt (Nat.lt_succ_self _)),⟨⟨_,e1⟩,h1⟩,fun b hb=>?_,q⟩
 have le:s1.heap.objs.size<=b:=by
  simp only[List.mem_cons,or_false,List.not_mem_nil]at hb
  rcases hb with e | e
  ·rw[e];exact Nat.le_add_right _ 1
  ·rw[e];exact Nat.le_refl _
 exact I1.fpOk le (I1.hok.fresh le)
end L2
namespace Srt
open PySem PySem.W PyProof.Rows
@[reducible] noncomputable def κI:KeyKind where
 α:=Int
 blt a b:=decide (a<b)
 irrefl a:=by simp
 trans a b c h k:=by simp at h k ⊢;lia
 negTrans a b c h:=by simp at h ⊢;lia
 total a b h k:=by simp at h k;lia
 keyOf v:=match v with
  | .int i _=>some i
  | _=>none
 dflt:=(0:Int)
theorem κI_of{v:Value}{i:Int}(h:κI.keyOf v=some i):∃ t,v = .int i t:=by
 cases v with
 |int j t =>
  have e:j=i:=Option.some.inj h
  subst e
  exact⟨t,rfl⟩
 | _=>cases h
theorem ltI_ok{prog:Program}{w:World}{A:Around}{s:Shared}:LtOk κI oneType' prog w A s:=by
 intro E x y a b Q st hk ha hb q
 obtain⟨t,e1⟩:=κI_of ha
 obtain⟨u,e2⟩:=κI_of hb
 rw[lt'_eq]
 refine wpS_bind (wpS_get ?_)
 rw[hk,keyLt'_oneType,e1,e2]
 refine wpS_bind (wpS_lift (wpAny_attempt (oneLt_int ⟨rfl,?_⟩)))
 exact wpS_pure q
end Srt
namespace L2
open PySem PySem.W PyProof.Rows Srt
section
variable{X:Cx}{pins:List (Addr×Obj)}{σ:St}{H:Hp}{s:Shared}
theorem collect_kept{g:Heap}{vs:List Value}:∀ b u,g.get? b=some u->((g.push (seqObj "list" #[] 0)).update g.objs.size (Obj.mapSeq (·++vs.toArray))).get? b=some u:=fun b u e=>by
 rw[Heap.get?_update_ne _ _ _ _ (Nat.ne_of_lt (Heap.lt_size e))]
 exact Heap.get?_push_of_some _ e
theorem call_sortedT:CallR X (.builtin "sorted") (fun xs H Q=>∃ l as ks,xs=[V.ref l]/\SqL X.K H l (List.map V.ref as)/\TupsAt H as ks/\(∀ k∈ks,k≠[])/\as.length<128 /\
  ∀ (l':Addr) (bs:List Addr) (ns:List (List Int)),H l'=none->ns.Perm ks->ns.Pairwise (fun x y=>lexlt y x=false)->TupsAt H bs ns->Q (.ref l') (upd H l' (.lst (bs.map V.ref)))):=by
 intro pins s σ H xs us Q I r h
 obtain⟨l,as,ks,rfl,hq,ht,hne,hlen,q⟩:=h
 obtain⟨u,rfl,rx⟩:=vals1 r
 cases rx
 obtain⟨its,r',pl,hz⟩:=I.list hq
 have er:=refs_of r'
 subst er
 refine Calls.call_function_entry kind_sorted plain_sorted entry_sorted (args_sorted1 _) ?_
 unfold Builtin.«sorted»
 refine wpAny_bind (m:=checkCount "sorted" 1 1 _) (wpAny_pure (wpAny_bind (collect_list pl.isList ?_ (by rw[List.length_map,sizeLine_eq];omega))))
 generalize hh':(s.heap.push (seqObj "list" #[] 0)).update s.heap.objs.size (Obj.mapSeq (·++(as.map Value.ref).toArray))=h'
 have kp:∀ b u,s.heap.get? b=some u->h'.get? b=some u:=hh'▸collect_kept
 refine wpAny_bind (wpAny_newList ?_ (by rw[List.length_map,sizeLine_eq];omega))
 have gL:(h'.push (seqObj "list" (as.map Value.ref).toArray 0)).get? h'.objs.size=some (seqObj "list" (as.map Value.ref).toArray 0):=Heap.get?_push_size _ rfl
 have I1:Inv X pins σ H { s with heap:=h' }:=I.kept (t':=s.toks) kp
 have kp2:∀ b u,h'.get? b=some u->(h'.push (seqObj "list" (as.map Value.ref).toArray 0)).get? b=some u:=fun b u e=>Heap.get?_push_of_some _ e
 have zipne:∀ {as:List Addr}{ks:List (List Int)},TupsAt H as ks->(∀ k∈ks,k≠[])->Paired (fun a k=>H a=some (.tup (List.map V.int k))/\k≠[]) as ks:=by
  intro as ks h
  induction h with
  |nil=>intro _;exact .nil
  |cons r _ ih=>intro hn;exact .cons ⟨r,hn _ (List.mem_cons_self ..)⟩ (ih fun k hk=>hn k (List.mem_cons_of_mem _ hk))
 have tT:Paired (fun a k=>TupI (h'.push (seqObj "list" (as.map Value.ref).toArray 0)) (.ref a) k/\k≠[]) as ks:=Paired.mapP (zipne ht hne) fun a k z=>⟨(tupI_of I1 z.1).to fun b u _ e=>kp2 b u e,z.2⟩
 have memH:=tups_mem ht
 refine wpAny_bind (wpAny_holding (wpAny_call_entry slot_list_sort ⟨_,gL,rfl⟩ entry_list_sort (sort_new (X:=X) (s:={ s with heap:=h'.push (seqObj "list" (as.map Value.ref).toArray 0) }) gL tT hlen fun bs ns g c pb pn pw pt kp3 gg=>⟨_,rfl,?_⟩) (args_list_sort _)))
 refine wpAny_pure ⟨_,rfl,.ref h'.objs.size,_,I1.laid (t':=s.toks) (a:=h'.objs.size) (o:=.lst (bs.map V.ref)) (fun b u e=>kp3 b u (Nat.ne_of_lt (Heap.lt_size e)) (kp2 b u e)) (Nat.le_refl _) (show ObjOk X.prog X.w _ g _ (.lst (bs.map V.ref))from⟨?_,bs.map Value.ref,c,?_,gg⟩),rfl,q _ bs ns (I1.hok.fresh (Nat.le_refl _)) pn pw ?_⟩
 ·rw[List.length_map,pb.length_eq,sizeLine_eq];omega
 ·clear pb pt gg
  induction bs with
  |nil=>exact .nil
  |cons b bs ih=>exact .cons rfl ih
 ·have memB:∀ a∈bs,∃ k:List Int,H a=some (.tup (k.map V.int)):=fun a ha=>memH a (pb.mem_iff.mp ha)
  clear pb gg pn pw
  induction pt with
  |nil=>exact .nil
  | @cons a k l1 l2 r1 _ ih =>
   refine .cons ?_ (ih fun a ha=>memB a (List.mem_cons_of_mem _ ha))
   obtain⟨k',e⟩:=memB a (List.mem_cons_self ..)
   rw[e,r1.inj ((tupI_of I1 e).to fun b u _ z=>kp2 b u z)]
theorem ints_perm:∀ {ws vs:List Value}{ns:List Int},ws.Perm vs->Vals (ns.map V.int) vs->∃ ms:List Int,Vals (ms.map V.int) ws/\ms.Perm ns:=by
 intro ws vs ns hp r
 have hI:=intsAre_of r
 have all:∀ v∈vs,∃ i t,v=Value.int i t:=by
  intro v hv
  obtain⟨j,hj,e⟩:=List.getElem_of_mem hv
  have l:=r.length
  rw[List.length_map]at l
  obtain⟨u,e2,t,e3⟩:=r.get (i:=j) (x:=V.int (ns[j]'(by lia))) (by rw[List.getElem?_map,List.getElem?_eq_getElem (by lia)];rfl)
  rw[List.getElem?_eq_getElem hj,e]at e2
  cases e2
  exact⟨_,t,e3⟩
 let f:Value->Int:=fun v=>match v with
  | .int i _=>i
  | _=>0
 have key:∀ {us:List Value}{ks:List Int},Vals (ks.map V.int) us->us.map f=ks:=by
  intro us
  induction us with
  |nil=>intro ks r;cases ks with
   |nil=>rfl
   |cons _ _=>cases r
  |cons u us ih=>intro ks r;cases ks with
   |nil=>cases r
   |cons k ks =>
    cases r with
    |cons r1 r2 =>
     obtain⟨t,e⟩:=r1
     rw[List.map_cons,ih r2,e]
 refine⟨ws.map f,?_,?_⟩
 ·have all':∀ v∈ws,∃ i t,v=Value.int i t:=fun v hv=>all v (hp.mem_iff.mp hv)
  clear hp
  induction ws with
  |nil=>exact .nil
  |cons w ws ih =>
   obtain⟨i,t,e⟩:=all' w (List.mem_cons_self ..)
   refine .cons ⟨t,by rw[e]⟩ (ih fun v hv=>all' v (List.mem_cons_of_mem _ hv))
 ·rw[<- key r]
  exact hp.map f
theorem call_sortedI:CallR X (.builtin "sorted") (fun xs H Q=>∃ (l:Addr) (ns:List Int),xs=[V.ref l]/\SqL X.K H l (ns.map V.int)/\ns.length<128 /\
  ∀ (l':Addr) (ms:List Int),H l'=none->ms.Perm ns->ms.Pairwise (·<=·)->Q (.ref l') (upd H l' (.lst (ms.map V.int)))):=by
 intro pins s σ H xs us Q I r h
 obtain⟨l,ns,rfl,hq,hlen,q⟩:=h
 obtain⟨u,rfl,rx⟩:=vals1 r
 cases rx
 obtain⟨its,r',pl,hz⟩:=I.list hq
 have li:=r'.length
 rw[List.length_map]at li
 refine Calls.call_function_entry kind_sorted plain_sorted entry_sorted (args_sorted1 _) ?_
 unfold Builtin.«sorted»
 refine wpAny_bind (m:=checkCount "sorted" 1 1 _) (wpAny_pure (wpAny_bind (collect_list pl.isList ?_ (by rw[sizeLine_eq];lia))))
 generalize hh':(s.heap.push (seqObj "list" #[] 0)).update s.heap.objs.size (Obj.mapSeq (·++its.toArray))=h'
 have kp:∀ b u,s.heap.get? b=some u->h'.get? b=some u:=hh'▸collect_kept
 refine wpAny_bind (wpAny_newList ?_ (by rw[sizeLine_eq];lia))
 have gL:(h'.push (seqObj "list" its.toArray 0)).get? h'.objs.size=some (seqObj "list" its.toArray 0):=Heap.get?_push_size _ rfl
 have I1:Inv X pins σ H { s with heap:=h' }:=I.kept (t':=s.toks) kp
 have kp2:∀ b u,h'.get? b=some u->(h'.push (seqObj "list" its.toArray 0)).get? b=some u:=fun b u e=>Heap.get?_push_of_some _ e
 have hI:=intsAre_of r'
 have keys:KeysOf κI (pairsOf its):=fun p hp=>by
  rw[pairsOf_toList]at hp
  obtain⟨e1,e2⟩:=Srt.mem_zip_self hp
  obtain⟨j,hj,e⟩:=List.getElem_of_mem e2
  obtain⟨u,g1,t,g2⟩:=r'.get (i:=j) (x:=V.int (ns[j]'(by lia))) (by rw[List.getElem?_map,List.getElem?_eq_getElem (by lia)];rfl)
  rw[List.getElem?_eq_getElem hj,e]at g1
  cases g1
  rw[e1,g2]
  exact⟨_,rfl⟩
 refine wpAny_bind (wpAny_holding (wpAny_call_entry slot_list_sort ⟨_,gL,rfl⟩ entry_list_sort (sort_at (κ:=κI) (kd:=oneType') gL keys (by lia) (fun l2 g k=>⟨ltI_ok,fun R hR=>?_⟩) fun ws g c pw sw kp3 gg=>⟨_,rfl,?_⟩) (args_list_sort _)))
 ·match its,hI,l2 with
  |v1 :: v2 :: rest,hI,_ =>
   rw[keyKind_ints hI]
   exact wpAny_pure hR
  |[],_,l2=>simp at l2
  |[_],_,l2=>simp at l2
 ·obtain⟨ms,rm,pm⟩:=ints_perm pw r'
  have lw:=rm.length
  rw[List.length_map]at lw
  refine wpAny_pure ⟨_,rfl,.ref h'.objs.size,_,I1.laid (t':=s.toks) (a:=h'.objs.size) (o:=.lst (ms.map V.int)) (fun b u e=>kp3 b u (Nat.ne_of_lt (Heap.lt_size e)) (kp2 b u e)) (Nat.le_refl _) (show ObjOk X.prog X.w _ g _ (.lst (ms.map V.int))from⟨?_,ws,c,rm,gg⟩),rfl,q _ ms (I1.hok.fresh (Nat.le_refl _)) pm ?_⟩
  ·rw[List.length_map,pm.length_eq,sizeLine_eq];lia
  ·rw[List.pairwise_iff_getElem]
   intro i j hi hj ij
   have z:=sw i j (Nat.le_of_lt ij) (by lia)
   have kk:∀ m (hm:m<ms.length),KK κI (pairsOf ws) m=ms[m]:=fun m hm=>by
    obtain⟨u,g1,t,g2⟩:=rm.get (i:=m) (x:=V.int ms[m]) (by rw[List.getElem?_map,List.getElem?_eq_getElem hm];rfl)
    have e:(pairsOf ws)[m]?=some (u,u):=by
     have hm':m<ws.length:=by lia
     have:ws[m]=u:=by rw[List.getElem?_eq_getElem hm']at g1;exact Option.some.inj g1
     simp[pairsOf,hm',this]
    unfold KK
    rw[e,g2]
    rfl
   rw[kk i hi,kk j hj]at z
   have z':decide (ms[j]<ms[i])=false:=z
   have:=of_decide_eq_false z'
   lia
end
open PySem PySem.W PyProof.Rows
open PySem PySem.W PyProof.Rows Srt
theorem keys_of_pairs{P:Program}{w:World}{es:List DictEntry}{kvs:List (Key×V)}{vs:List (Key×Value)}(h:Pairs (mixKind P w) es vs)(r:KV kvs vs):Vals (kvs.map fun kv=>kV kv.1) (es.map fun r=>r.key):=by
 induction h generalizing kvs with
 |nil=>cases r;exact .nil
 | @cons e q es vs h1 h2 h3 ih =>
  cases r with
  | @cons kv _ kvs _ r1 r2 =>
   refine .cons ?_ (ih r2)
   show RelV (kV kv.1) e.key
   rw[r1.1]
   have h1:keyIs q.1 e.key=true:=h1
   rcases keyIs_shape h1 with⟨i,t,e1,e2⟩ |⟨x,t,e1,e2⟩
   ·rw[e1,e2];exact⟨t,rfl⟩
   ·rw[e1,e2];exact⟨t,rfl⟩
theorem raw_of{P:Program}{w:World}{h:Heap}{d:Addr}{kvs:List (Key×V)}{vs:List (Key×Value)}(r:KV kvs vs)(m:h.DictOf (mixKind P w) d vs):∃ o ep us,h.get? d=some o/\(∀ g:Heap,g.get? d=some o->RawD d us ep g)/\Vals (kvs.map fun kv=>kV kv.1) us:=by
 obtain⟨o,es,ep,e,x,dt,_,ps,_⟩:=m
 exact⟨o,ep,_,e,fun g eg=>⟨o,es,eg,x,dt,rfl⟩,keys_of_pairs ps r⟩
section
variable{X:Cx}
theorem least_at{ns:List Int}{ys:Array (Int×Tok)}(e1:ns=ys.toList.map (·.1))(hs:0<ys.size){v:Value}(hv:(intItems ys)[argBest (fun i j=>decide (numAt ys i<numAt ys j)) (ys.size-1)]?=some v) :
  ∃ (m:Int) (t:Tok),v = .int m t/\m∈ns/\∀ a∈ns,m<=a:=by
 obtain⟨tk,rfl⟩:=intItems_at hv
 have best:=argBest_lt (numAt ys) (ys.size-1)
 have len:(ys.toList.map (·.1)).length=ys.size:=by simp
 refine⟨_,tk,rfl,?_,fun a ha=>?_⟩
 ·have:=best.1
  rw[numAt_eq,e1]
  exact getD_mem (by omega)
 ·subst e1
  obtain⟨i,hi,z⟩:=mem_getD ha
  have top:=best.2 i (by omega)
  rw[numAt_eq ys i,z]at top
  exact top
theorem call_minL(hc:X.calm=true):CallR X (.builtin "min") (fun xs H Q=>∃ (l:Addr) (ns:List Int),xs=[V.ref l]/\SqL X.K H l (ns.map V.int)/\ns≠[]/\∀ m:Int,m∈ns->(∀ a∈ns,m<=a)->Q (.int m) H):=by
 intro pins s σ H xs us Q I r h
 obtain⟨l,ns,rfl,hq,hne,q⟩:=h
 obtain⟨u,rfl,rx⟩:=vals1 r
 cases rx
 obtain⟨its,r',pl,hz⟩:=I.list hq
 have hi:=intsAre_of r'
 obtain⟨ys,hx⟩:=hi.allInts.items
 have e1:ns=ys.toList.map (·.1):=by
  rw[<- nums_intItems,<- hx]
  exact(show numsOf its.toArray.toList=ns from hi.numsOf).symm
 have hs:0<ys.size:=by
  have:=List.length_pos_iff.mpr hne
  rw[e1,List.length_map,Array.length_toList]at this
  exact this
 refine min_intList (I.ok.hd hc) (hx▸pl.isList) hs fun v h' tk hv hk=>?_
 obtain⟨m,t,rfl,hm,hb⟩:=least_at e1 hs hv
 exact⟨.int m,H,I.kept hk,⟨t,rfl⟩,q m hm hb⟩
end
open PySem PySem.W PyProof.Rows HT
section
variable{X:Cx}
noncomputable def rInsert:V->List V->Hp->VK->Prop:=fun x vs H Q=>∃ (l:Addr) (xs:List V) (i:Int) (y:V),x = .ref l/\vs=[.int i,y]/\H l=some (.lst xs)/\0<=i/\i<=xs.length/\xs.length<sizeLine/\Q .non (upd H l (.lst (xs.take i.toNat++y :: xs.drop i.toNat)))
theorem mt_insert:MtM X "list.insert" rInsert:=by
 intro pins s σ H x vs v us Q I rx rv h
 obtain⟨l,xs,i,y,rfl,rfl,hH,h0,hk,hz,q⟩:=h
 cases rx
 obtain⟨u,u2,rfl,ru,ru2⟩:=rv.two
 obtain⟨t,rfl⟩:=ru
 obtain⟨z,its,n,r,hl,e⟩:=I.lstM hH
 have zl:=sizeLine_eq
 have hf:Builtin.List.listFitsIndex i=true:=fitsIndex_both (by omega) (by omega)
 refine call_meets F.slot_list_insert ⟨_,e,rfl⟩ F.entry_list_insert (F.args_list_insert_3 _ _ _) (PySem.AutoSeq1.list_insert_list_int_val_1 l _ n i t u2 (by simp[hf]) (by rw[List.size_toArray];omega)) ⟨e,?_⟩
 refine⟨.non,_,I.lset (its':=its.take i.toNat++u2 :: its.drop i.toNat) hH e ?_ ((Vals.take i.toNat r).append (.cons ru2 (Vals.drop i.toNat r))) ?_,rfl,q⟩
 ·have e2:(if i<0 then(i+(its.toArray.size:Int)).toNat else min i.toNat its.toArray.size)=i.toNat:=by
   rw[if_neg (by omega),List.size_toArray]
   omega
  show(its.toArray.extract 0 (if i<0 then(i+(its.toArray.size:Int)).toNat else min i.toNat its.toArray.size)).push u2++its.toArray.extract (if i<0 then(i+(its.toArray.size:Int)).toNat else min i.toNat its.toArray.size)=_
  rw[e2]
  apply Array.ext'
  simp[List.take_take]
  exact List.take_of_length_le (by rw[List.length_drop];exact Nat.le_refl _)
 ·rw[List.length_append,List.length_cons,List.length_take,List.length_drop]
  omega
noncomputable def rCatA(K:PySem.W.Frag):R2:=fun x y H Q=>∃ a b xs ys,x = .ref a/\y = .ref b/\SqT K H a xs/\SqT K H b ys/\xs.length+ys.length<=sizeLine /\
 (xs=[]->Q (.ref b) H)/\(xs≠[]->ys=[]->Q (.ref a) H)/\(xs≠[]->ys≠[]->∀ p,H p=none->Q (.ref p) (upd H p (.tup (xs++ys))))
theorem op_catA:OpR X (binaryOp .Add) (rCatA X.K):=by
 intro pins s σ H x y v u Q I rx ry h
 obtain⟨a,b,xs,ys,rfl,rfl,ha,hb,hz,q1,q2,q3⟩:=h
 by_cases e:xs=[]
 ·subst e
  cases rx
  cases ry
  obtain⟨us,r1,p1,_⟩:=I.tuple ha
  obtain⟨ws,r2,p2,_⟩:=I.tuple hb
  cases r1
  obtain⟨⟨cls,dd,data,sl⟩,ho,hc,n,hd⟩:=p1
  obtain⟨⟨cls2,dd2,data2,sl2⟩,ho2,hc2,n2,hd2⟩:=p2
  simp only at hc hd hc2 hd2
  subst hc hd hc2 hd2
  exact concat_meets ⟨_,ho,rfl⟩ ⟨_,ho2,rfl⟩ noFill_tuple_add seq_tuple_add PySem.F.slot_tuple_add PySem.F.entry_tuple_add (PySem.F.args_tuple_add_2 _ _)
   (tuple_addW0 a b #[] ws.toArray n n2 dd dd2 sl sl2 rfl) ⟨ho,ho2,⟨.ref b,H,I,rfl,q1 rfl⟩⟩
 ·refine op_catT pins s σ H _ _ v u Q I rx ry ⟨a,b,xs,ys,rfl,rfl,ha,hb,e,hz,?_⟩
  exact⟨q2 e,q3 e⟩
end
end L2
namespace SetA
open PySem
open PySem
open PySem
open PySem
open PySem
open PySem
open PySem
open PySem
open PySem
open PySem L2
open PySem L2
open PySem L2
open PySem PySem.W PyProof.Rows
theorem cut_perm{α:Type}:∀ (i:Nat) (l:List α) (h:i<l.length),(l[i] :: l.eraseIdx i).Perm l
 | 0,_ :: _,_=>.refl _
 |i+1,x :: l,h=>by
  show(l[i]'(Nat.lt_of_succ_lt_succ h) :: x :: l.eraseIdx i).Perm _
  exact(List.Perm.swap _ _ _).trans ((cut_perm i l (Nat.lt_of_succ_lt_succ h)).cons x)
end SetA
namespace L2
open PySem PySem.W PyProof.Rows Srt SetA
open PySem PySem.W PyProof.Rows Srt
open PySem PySem.W PyProof.Rows Srt
open PySem PySem.W PyProof.Rows
noncomputable def sqO:Bool->List V->HO
 |true,xs=>.tup xs
 |false,xs=>.lst xs
theorem sq_or{b:Bool}{K:PySem.W.Frag}{H:Hp}{a:Addr}{xs:List V}(h:H a=some (sqO b xs)):SqL K H a xs\/SqT K H a xs:=by
 cases b
 ·exact .inl (SqL.of h)
 ·exact .inr (SqT.of h)
section
variable{X:Cx}
noncomputable def rIxLh:R2:=fun x y H Q=>∃ p xs i v,x = .ref p/\y = .int i/\H p=some (.lst xs)/\atI xs i=some v/\Q v H
noncomputable def rIxTh:R2:=fun x y H Q=>∃ p xs i v,x = .ref p/\y = .int i/\H p=some (.tup xs)/\atI xs i=some v/\Q v H
theorem ix_listH:IxR X rIxLh:=by
 intro value slice pins s σ H x y v u Q I rx ry h hs
 obtain⟨p,xs,i,z,rfl,rfl,hp,he,q⟩:=h
 exact ix_list value slice pins s σ H _ _ v u Q I rx ry ⟨p,xs,i,z,rfl,rfl,SqL.of hp,he,q⟩ hs
theorem ix_tupH:IxR X rIxTh:=by
 intro value slice pins s σ H x y v u Q I rx ry h hs
 obtain⟨p,xs,i,z,rfl,rfl,hp,he,q⟩:=h
 exact ix_tup value slice pins s σ H _ _ v u Q I rx ry ⟨p,xs,i,z,rfl,rfl,SqT.of hp,he,q⟩ hs
theorem call_lenH:CallR X (.builtin "len") (fun xs H Q=>∃ p ys,xs=[.ref p]/\H p=some (.lst ys)/\Q (.int ys.length) H):=by
 intro pins s σ H xs us Q I r h
 obtain⟨p,ys,rfl,hp,q⟩:=h
 exact call_len_seq pins s σ H _ us Q I r ⟨p,ys,rfl,.inl (SqL.of hp),q⟩
theorem call_lenTH:CallR X (.builtin "len") (fun xs H Q=>∃ p ys,xs=[.ref p]/\H p=some (.tup ys)/\Q (.int ys.length) H):=by
 intro pins s σ H xs us Q I r h
 obtain⟨p,ys,rfl,hp,q⟩:=h
 exact call_len_seq pins s σ H _ us Q I r ⟨p,ys,rfl,.inr (SqT.of hp),q⟩
theorem call_tupleH:CallR X (.type "tuple") (fun xs H Q=>∃ p ys,xs=[.ref p]/\H p=some (.lst ys)/\∀ l,H l=none->Q (.ref l) (upd H l (.tup ys))):=by
 intro pins s σ H xs us Q I r h
 obtain⟨p,ys,rfl,hp,q⟩:=h
 exact call_tuple_of pins s σ H _ us Q I r ⟨p,ys,rfl,.inl ⟨SqL.of hp,q⟩⟩
theorem call_listH(b:Bool):CallR X (.type "list") (fun xs H Q=>∃ p ys,xs=[.ref p]/\H p=some (sqO b ys)/\∀ l,H l=none->Q (.ref l) (upd H l (.lst ys))):=by
 intro pins s σ H xs us Q I r h
 obtain⟨p,ys,rfl,hp,q⟩:=h
 exact call_list_of pins s σ H _ us Q I r ⟨p,ys,rfl,sq_or hp,q⟩
theorem call_sumH(hc:X.calm=true):CallR X (.builtin "sum") (fun xs H Q=>∃ (l:Addr) (ns:List Int),xs=[V.ref l]/\H l=some (.lst (ns.map V.int))/\Q (.int ns.sum) H):=by
 intro pins s σ H xs us Q I r h
 obtain⟨p,ys,rfl,hp,q⟩:=h
 exact call_sum hc pins s σ H _ us Q I r ⟨p,ys,rfl,SqL.of hp,q⟩
theorem call_allH(hc:X.calm=true):CallR X (.builtin "all") (fun xs H Q=>∃ (l:Addr) (bs:List Bool),xs=[V.ref l]/\H l=some (.lst (bs.map V.bl))/\Q (.bl (bs.all id)) H):=by
 intro pins s σ H xs us Q I r h
 obtain⟨p,ys,rfl,hp,q⟩:=h
 exact call_all hc pins s σ H _ us Q I r ⟨p,ys,rfl,SqL.of hp,q⟩
theorem call_minLH(hc:X.calm=true):CallR X (.builtin "min") (fun xs H Q=>∃ (l:Addr) (ns:List Int),xs=[V.ref l]/\H l=some (.lst (ns.map V.int))/\ns≠[]/\∀ m:Int,m∈ns->(∀ a∈ns,m<=a)->Q (.int m) H):=by
 intro pins s σ H xs us Q I r h
 obtain⟨p,ys,rfl,hp,n0,q⟩:=h
 exact call_minL hc pins s σ H _ us Q I r ⟨p,ys,rfl,SqL.of hp,n0,q⟩
noncomputable def rInQ(b n:Bool):R2:=fun x y H Q=>∃ p xs,y = .ref p/\H p=some (sqO b xs)/\flatV x=true/\xs.all flatV=true/\Q (.bl (if n=true then !inV x xs else inV x xs)) H
theorem op_inQ(b:Bool):OpR X (compareOp .In) (rInQ b false):=by
 intro pins s σ H x y v u Q I rx ry h
 obtain⟨p,xs,rfl,hp,fx,fs,q⟩:=h
 exact op_in_seq pins s σ H x _ v u Q I rx ry ⟨p,xs,rfl,sq_or hp,fx,fs,q⟩
theorem op_notInQ(b:Bool):OpR X (compareOp .NotIn) (rInQ b true):=by
 intro pins s σ H x y v u Q I rx ry h
 obtain⟨p,xs,rfl,hp,fx,fs,q⟩:=h
 exact op_notIn_seq pins s σ H x _ v u Q I rx ry ⟨p,xs,rfl,sq_or hp,fx,fs,q⟩
theorem op_inH:OpR X (compareOp .In) (rInQ false false):=op_inQ false
theorem op_notInH:OpR X (compareOp .NotIn) (rInQ false true):=op_notInQ false
noncomputable def tBMh(r:V->List V->Hp->VK->Prop)(to:TE)(t:TA):TE:=fun σ H Q=>to σ H fun x H1=>(∃ p xs,x = .ref p/\H1 p=some (.lst xs))/\t σ H1 fun xs H2=>r x xs H2 Q
theorem pe_bmH{id:String}{name:Str}{r:V->List V->Hp->VK->Prop}{o e:Expr}{es:List Expr}{to:TE}{t:TA}{apos cpos:Pos}(slot:Slot "list" name id)(hty:typeOf (.builtin id)=pure (.type "method_descriptor"))(hm:MtR X id r)(ho:PE X o to)(ha:PA X (e :: es) t)(hbase:attributeBase o name X.env (eval o X.env)=eval o X.env:=by rfl)
  (hfew:((backTo cpos (starEach (e :: es) X.env)).all (fun x=>!x.1) && (backToKw cpos (keywordEach [] X.env)).all (fun x=>x.1.isSome) && decide ((e :: es).length+([]:List Keyword).length+(if([]:List Keyword).isEmpty then 0 else 1)<30))=true:=by rfl) (hline:(apos.endLine == cpos.line)=true:=by rfl)
  (hs:starEach (e :: es) X.env=(false,eval e X.env) :: starEach es X.env:=by rfl) (hplain:(backTo cpos (starEach es X.env)).any (·.1)=false:=by rfl):PE X (.Call (.Attribute o name apos) (e :: es) [] cpos) (tBMh r to t):=by
 intro pins s σ H Q I h
 refine wpAny_Call_method_late hbase hfew hline rfl (thn (ho pins s σ H _ I h) fun v s1 ⟨x,H1,I1,r1,⟨p,xs,ex,hx⟩,q1⟩=>?_)
 subst ex
 obtain⟨h1,h2⟩:=tyV_is (T:="list") I1 r1 (.inl ⟨rfl,xs,SqL.of hx⟩)
 refine⟨"list",id,PySem.F.plainAttrs_list,slot,hty,h1,h2,?_⟩;have hA:=ha cpos pins s1 σ H1 _ I1 q1
 rw[hs]at hA ⊢;refine Calls.callWith_builtin (by show(false ||(backTo cpos (starEach es X.env)).any (·.1))=false;rw[hplain] <;> rfl) (Calls.evalArgs_plain (thn hA fun us s2 ⟨vs,H2,I2,r2,q2⟩=>?_))
 exact hm pins s2 σ H2 _ vs v us Q I2 r1 r2 q2
end
open PySem PySem.W PyProof.Rows
theorem star_ife{c a b:Expr}{pos:Pos}{rest:List Expr}{env:Env}:starEach (.IfExp c a b pos :: rest) env=(false,eval (.IfExp c a b pos) env) :: starEach rest env:=rfl
theorem pa_ife{X:Cx}{es:List Expr}{pos:Pos}{te:TE}{t:TA}{c a b:Expr}(ha:PE X (.IfExp c a b pos) te)(hr:PA X es t):PA X (.IfExp c a b pos :: es) (tCons te t):=pa_cons ha hr (hs:=star_ife)
open PySem PySem.W PyProof.Rows
section
variable{M:Model}{A:Around}{E:Value->Shared->Prop}{s:Shared}
theorem newEnv_cell{scope:Scope}{globals:Addr}{closure:List (Str×Addr)}{qual:Str}{func:Option Addr}{code:Value}{builtins:Addr}{env:Env}{y:Str}{Q:Env->Shared->Prop}
  (h1:∀ b acc,cellsFrom b scope.names acc=(y,b) :: acc) (h2:∀ h:Heap,pushCells h scope.names=h.push { cls:=.type "cell",data:=.cell none })
  (hQ:Q (newEnv scope s.heap.objs.size globals ((y,s.heap.objs.size+1) :: closure) qual func code (some env) builtins) { s with heap:=(s.heap.push { cls:=.type "dict",data:=.dict #[] }).push { cls:=.type "cell",data:=.cell none } }) :
  wpAny M A (newFunctionEnv scope globals closure [] qual func code (some env) builtins) Q E s:=by
 simp only[newFunctionEnv,Option.isSome_some,if_true]
 refine wpAny_bind (wpAny_alloc ?_)
 refine wpAny_bind (wpAny_layCells _ (fun name kind cells=>by cases hkc:kind == NameKind.cell <;> simp[hkc]) _ _ _ _ ?_)
 rw[h1,h2,show({ s with heap:=s.heap.push { cls:=.type "dict",data:=.dict #[] } }:Shared).heap.objs.size=s.heap.objs.size+1 from Heap.size_push ..]
 rw[List.forIn_nil]
 exact wpAny_bind (wpAny_pure (wpAny_pure hQ))
end
noncomputable def cxIc(X:Cx)(y:Str)(N':List Str)(scope:Scope)(C:Addr)(s2:Shared)(H2:Hp)(fp:List Addr):Cx :=
 { X with N:=N',s₀:=s2,H₀:=H2,env:=compEnvC scope ((y,C+1) :: closCl X.env.cells scope.names []) C X.env,outer:=X.stack,ex:=fp,fn:=fun x=>decide (x=y),xe:=fun _ _=>False }
structure CellScope(y:Str)(N':List Str)(cap:List (Option Nat))(N:List Str)(sc0 scope:Scope):Prop where
 kind:scope.kind = .function
 one:∀ b acc,cellsFrom b scope.names acc=(y,b) :: acc
 push:∀ h:Heap,pushCells h scope.names=h.push { cls:=.type "cell",data:=.cell none }
 only:∀ x∈scope.names,x.2 = .cell->x.1=y
 own:scope.names.lookup y=some .cell
 loc:∀ x∈scope.names,x.2 = .local->scope.names.lookup x.1=some .local
 fre:∀ x∈scope.names,x.2 = .free->sc0.names.lookup x.1=some .cell\/sc0.names.lookup x.1=some .free
 len:cap.length=N'.length
 cap:∀ j∈List.range cap.length,match cap[j]? with
  |some (some i)=>match N'[j]? with
   |some x=>N[i]?=some x/\scope.names.lookup x=some .free
   |none=>False
  | _=>True
section
variable{X:Cx}{y:Str}{N':List Str}{cap:List (Option Nat)}{scope:Scope}{C:Addr}{s2 s4:Shared}{H2:Hp}{fp:List Addr}{pins:List (Addr×Obj)}{σ:St}
theorem CellScope.clos(S:CellScope y N' cap X.N X.env.scope scope)(I:Inv X pins σ H2 s2):∀ x∈scope.names,x.2 = .free->∃ c,X.env.cells.lookup x.1=some c :=
 fun x hx hf=>I.ok.has x.1 (S.fre x hx hf)
theorem csC_sound(S:CellScope y N' cap X.N X.env.scope scope)(I:Inv X pins σ H2 s2){x:Str}{c:Addr}(e:((y,C+1) :: closCl X.env.cells scope.names []).lookup x=some c):(x=y/\c=C+1)\/X.env.cells.lookup x=some c:=by
 rw[List.lookup_cons]at e
 by_cases z:(x == y)=true
 ·rw[z]at e
  exact .inl ⟨by simpa using z,by cases e;rfl⟩
 ·rw[Bool.eq_false_iff.mpr z]at e
  exact .inr (closCl_sound _ _ (S.clos I) (fun y c e=>by simp at e) x c e)
theorem csC_old(I:Inv X pins σ H2 s2){x:Str}{c:Addr}(hC:s2.heap.objs.size<=C)(e:X.env.cells.lookup x=some c):c≠C+1:=fun z=>by
 obtain⟨v,q⟩:=I.cell x c e
 have h1:=q.lt
 rw[z]at h1
 exact absurd h1 (Nat.not_lt.mpr (Nat.le_succ_of_le hC))
theorem cxIc_ok(S:CellScope y N' cap X.N X.env.scope scope)(I:Inv X pins σ H2 s2)(hC:s2.heap.objs.size<=C)(hfp:∀ b∈fp,FpOk X pins H2 b)(hfo:∀ b∈fp,∃ o,s2.heap.get? b=some o):(cxIc X y N' scope C s2 H2 fp).Ok where
 mod:=I.ok.mod
 kind:=S.kind
 glob:=I.ok.glob
 blt:=I.ok.blt
 above:=hC
 inj:=fun x z c e1 e2=>by
  rcases csC_sound S I e1 with⟨a1,b1⟩ | a1 <;> rcases csC_sound S I e2 with⟨a2,b2⟩ | a2
  ·rw[a1,a2]
  ·exact absurd b1 (csC_old I hC a2)
  ·exact absurd b2 (csC_old I hC a1)
  ·exact I.ok.inj x z c a1 a2
 has:=fun x h=>by
  have key:∀ k,(x,k)∈scope.names->(k = .cell\/k = .free)->∃ c,((y,C+1) :: closCl X.env.cells scope.names []).lookup x=some c:=fun k hk hc=>by
   rw[List.lookup_cons]
   by_cases z:(x == y)=true
   ·rw[z];exact⟨_,rfl⟩
   ·rw[Bool.eq_false_iff.mpr z]
    rcases hc with e | e
    ·subst e;exact absurd (by simpa using S.only _ hk rfl) z
    ·subst e;exact closCl_has _ _ x hk
  rcases h with h | h
  ·obtain⟨k,hk,e |⟨e,_⟩⟩:=relabel_mem (scope:=scope) (l:=scope.names) h
   ·exact key k hk (.inl e)
   ·exact key k hk (.inr e)
  ·obtain⟨k,hk,e |⟨_,e⟩⟩:=relabel_mem (scope:=scope) (l:=scope.names) h
   ·exact key k hk (.inr e)
   ·cases e
 cab:=fun x c h e=>by
  have h:x=y:=of_decide_eq_true h
  rcases csC_sound S I e with⟨_,b1⟩ | a1
  ·rw[b1];exact Nat.le_succ_of_le hC
  ·subst h
   have e:((x,C+1) :: closCl X.env.cells scope.names []).lookup x=some c:=e
   rw[List.lookup_cons,beq_self_eq_true]at e
   cases e
   exact Nat.le_succ_of_le hC
 hd:=I.ok.hd
 frames:=I.ok.frames
 stk:=.inl rfl
 exf:=fun b hb=>⟨fun z=>by
   obtain⟨o,ho⟩:=hfo b hb
   have h1:=Nat.lt_of_lt_of_le (Heap.lt_size ho) hC
   have z:b=C:=z
   rw[z]at h1
   exact Nat.lt_irrefl _ h1,fun x c e=>by
   rcases csC_sound S I e with⟨_,b1⟩ | a1
   ·obtain⟨o,ho⟩:=hfo b hb
    have h1:=Nat.lt_of_lt_of_le (Heap.lt_size ho) hC
    intro z
    rw[<- z,b1]at h1
    exact absurd h1 (Nat.not_lt.mpr (Nat.le_succ _))
   ·exact(hfp b hb).2.2.2.2.1 x c a1⟩
 bs:=I.bs
 bsz:=Nat.le_trans I.ok.bsz I.sz
 noex:=fun b o e hb=>by
  rcases(hfp b hb).2.2.2.1 with z | z
  ·exact I.ok.noex b o e z
  ·exact absurd (Nat.lt_of_lt_of_le (Heap.lt_size e) (Nat.le_trans I.ok.bsz z)) (Nat.lt_irrefl _)
 exfs:=fun b hb z=>by
  rcases List.mem_cons.mp (I.stkSub b z)with e | e
  ·exact(hfp b hb).2.1 e
  ·exact(hfp b hb).2.2.1 e
 funs:=I.stack
 frf:=I.stkFree
theorem cxIc_inv(S:CellScope y N' cap X.N X.env.scope scope)(I:Inv X pins σ H2 s2)(hC:s2.heap.objs.size<=C)(hfp:∀ b∈fp,FpOk X pins H2 b)(hfo:∀ b∈fp,∃ o,s2.heap.get? b=some o)
  (ho:s4.os=s2.os) (hg:s4.gens=s2.gens) (k:∀ b o,s2.heap.get? b=some o->s4.heap.get? b=some o) {m:Str->Option Value} (hn:s4.heap.Ns C m) {D:Addr}{oD:Obj}
  (hD:s4.heap.get? D=some oD) (hDs:s2.heap.objs.size<=D) (hDC:D≠C) (hDc:∀ v,oD.data≠.cell v) (hcl:s4.heap.IsCell (C+1) none) :
  Inv (cxIc X y N' scope C s2 H2 fp) (pins++[(D,oD)]) (capt cap σ) H2 s4 where
 ok:=cxIc_ok S I hC hfp hfo
 os:=ho
 bare:=by rw[hg];exact I.bare
 base:=Un.kept k
 loc:=by
  refine⟨m,hn,fun j x v e1 e2 _=>?_⟩
  have hj:j<cap.length:=by rw[S.len];exact(List.getElem?_eq_some_iff.mp e1).1
  have e1:N'[j]?=some x:=e1
  have hc:=S.cap j (List.mem_range.mpr hj)
  unfold capt at e2
  rw[List.getElem?_map]at e2
  cases hq:cap[j]? with
  |none=>rw[hq]at e2;cases e2
  |some o =>
   rw[hq]at e2 hc
   cases o with
   |none=>cases e2
   |some i =>
    simp only[e1]at hc
    obtain⟨hN,hfr⟩:=hc
    have e3:σ[i]?=some (some v):=by
     have e2:(σ[i]?).join=some v:=Option.some.inj e2
     cases hs:σ[i]? with
     |none=>rw[hs]at e2;cases e2
     |some w=>rw[hs]at e2;have e2:w=some v:=e2;rw[e2]
    have hm:=lookup_mem hfr
    have hk:=S.fre _ hm rfl
    obtain⟨m0,hn0,hl0⟩:=I.loc
    obtain⟨u,r,l⟩:=hl0 i x v hN e3 (.inr hk)
    refine⟨u,r,?_⟩
    rcases l with⟨l,_⟩ |⟨_,c,e,z⟩
    ·rcases hk with hk | hk
     ·rw[show X.env.kindOf x=some .cell from hk]at l;cases l
     ·rw[show X.env.kindOf x=some .free from hk]at l;cases l
    ·obtain⟨c',hc'⟩:=closCl_has (cells:=X.env.cells) scope.names [] x hm
     have hs:=closCl_sound scope.names [] (S.clos I) (fun y c e=>by simp at e) x c' hc'
     rw[e]at hs
     cases hs
     have ny:(x == y)=false:=Bool.eq_false_iff.mpr fun z=>by
      have z:x=y:=by simpa using z
      rw[z,S.own]at hfr
      cases hfr
     refine .inr ⟨relabel_free hfr,c,(by show((y,C+1) :: closCl X.env.cells scope.names []).lookup x=some c;rw[List.lookup_cons,ny];exact hc'),?_⟩
     obtain⟨oc,ho',hd'⟩:=z
     exact⟨oc,k _ _ ho',hd'⟩
 cell:=fun x c e=>by
  rcases csC_sound S I e with⟨_,b1⟩ | a1
  ·rw[b1];exact⟨none,hcl⟩
  ·obtain⟨v,oc,ho',hd'⟩:=I.cell x c a1
   exact⟨v,oc,k _ _ ho',hd'⟩
 free:=I.hok.fresh hC
 freeC:=fun x c e=>by
  rcases csC_sound S I e with⟨_,b1⟩ | a1
  ·rw[b1];exact I.hok.fresh (Nat.le_succ_of_le hC)
  ·exact I.freeC x c a1
 pin:=fun p hp=>by
  have hp:p∈X.pn++(pins++[(D,oD)]):=hp
  have cne:∀ b o,s2.heap.get? b=some o->b≠C:=fun b o e z=>by
   have h1:=Nat.lt_of_lt_of_le (Heap.lt_size e) hC
   rw[z]at h1
   exact Nat.lt_irrefl _ h1
  rw[<- List.append_assoc]at hp
  rcases List.mem_append.mp hp with hp | hp
  ·obtain⟨e,n,ne,nf,d⟩:=I.pin p hp
   exact⟨k _ _ e,n,cne _ _ e,fun z=>by
    rcases List.mem_cons.mp (I.stkSub p.1 z)with e | e
    ·exact ne e
    ·exact nf e,d⟩
  ·have e:p=(D,oD):=by simpa using hp
   subst e
   refine⟨hD,I.hok.fresh hDs,hDC,fun z=>?_,hDc⟩
   rcases List.mem_cons.mp (I.stkSub D z)with e | e
   ·have h1:=Nat.lt_of_lt_of_le I.lt hDs
    rw[e]at h1
    exact Nat.lt_irrefl _ h1
   ·exact I.nofs hDs e
 hok:=I.hok.kept k
 len:=by unfold capt;rw[List.length_map];exact S.len
end
section
variable{X:Cx}{y:Str}{elt tg iter:Expr}{ifs:List Expr}{scope:Scope}{pos:Pos}{N':List Str}{cap:List (Option Nat)}{wi:TI}{g:TG}{tc:TT}{te:TE}
theorem comp_runC(hc:X.calm=true)(S:CellScope y N' cap X.N X.env.scope scope)(hi:PI X tg iter wi)(hg:∀ C s H fp,PG (cxIc X y N' scope C s H fp) tg g)
  (ht:∀ C s H fp,PF (cxIc X y N' scope C s H fp) ifs tc) (he:∀ C s H fp,PE (cxIc X y N' scope C s H fp) elt te)
  {pins:List (Addr×Obj)}{s:Shared}{σ:St}{H:Hp}{Q:VK} (I:Inv X pins σ H s) (h:tComp cap wi g tc te σ H Q) :
  wpAny (model X.prog X.w) X.A (eval iter X.env) (fun x s₁=>wpAny (model X.prog X.w) X.A (pyIter x) (fun it s₂=>wpAny (model X.prog X.w) X.A (newList []) (fun acc s₃ =>
   wpAny (model X.prog X.w) X.A (newFunctionEnv scope X.env.globals (closCl X.env.cells scope.names []) [] X.env.qual none .none (some X.env)) (fun cenv s₄ =>
    codeAny (model X.prog X.w) X.A (.compStart (.ListComp elt [⟨tg,iter,ifs,0⟩] scope pos) 0 it acc { cenv with scope:=relabel scope X.env }) (CompEnd X pins σ Q acc cenv.locals) s₄) X.xe s₃) X.xe s₂) X.xe s₁) X.xe s:=by
 refine thn (hi pins s σ H _ I h) fun v s1 h1=>thn h1 fun itv s2 h2=>?_
 obtain⟨it,fp,tn,J,H2,e,I2,T,st2,f2,n,P,hn,p0,turn⟩:=h2
 subst e
 refine wpAny_newObj_type (newEnv_cell S.one S.push ?_)
 dsimp only
 generalize hHp:s2.heap.push { cls:=.type "list",dict:=none,data:=.seq ([]:List Value).toArray } = Hq
 generalize hh1:(Hq.push { cls:=.type "dict",data:=.dict #[] }).push { cls:=.type "cell",data:=.cell none } = h₁
 have hns₁:h₁.Ns Hq.objs.size fun _=>none:=by rw[<- hh1];exact(Heap.Ns.new Hq (.type "dict")).keeps fun b o e=>Heap.get?_push_of_some _ e
 have hcl₁:h₁.IsCell (Hq.objs.size+1) none:=by
  have e:(Hq.push { cls:=.type "dict",data:=.dict #[] }).objs.size=Hq.objs.size+1:=Heap.size_push ..
  rw[<- hh1,<- e]
  exact⟨_,Heap.get?_push_size _ rfl,rfl⟩
 have up₁:∀ b o,Hq.get? b=some o->h₁.get? b=some o:=fun b o e=>by rw[<- hh1];exact Heap.get?_push_of_some _ (Heap.get?_push_of_some _ e)
 have hC:Hq.objs.size=s2.heap.objs.size+1:=by rw[<- hHp,Heap.size_push]
 have hDC:s2.heap.objs.size≠Hq.objs.size:=by rw[hC];exact Nat.ne_of_lt (Nat.lt_succ_self _)
 have hCle:s2.heap.objs.size<=Hq.objs.size:=by rw[hC];exact Nat.le_succ _
 have old:∀ b o,s2.heap.get? b=some o->h₁.get? b=some o:=fun b o e=>up₁ b o (hHp▸Heap.get?_push_of_some _ e)
 have hacc:h₁.PlainList s2.heap.objs.size #[]:=⟨_,up₁ _ _ (hHp▸Heap.get?_push_size _ rfl)⟩
 have hfo:∀ b∈fp,∃ o,s2.heap.get? b=some o:=fun b hb=>let ⟨o,e,_⟩:=T.obj _ _ st2 b hb;⟨o,e⟩
 have st4:tn 0 h₁:=T.keep _ _ _ st2 fun b _ o e=>old b o e
 let D:Addr:=s2.heap.objs.size
 let C:Addr:=Hq.objs.size
 let Y:Cx:=cxIc X y N' scope C s2 H2 fp
 have hDfp:D∉fp:=fun hb=>by
  obtain⟨o,e⟩:=hfo D hb
  exact Nat.lt_irrefl _ (Heap.lt_size e)
 -- the iterator's objects,seen from within
 have stat:∀ {H':Hp}{oD:Obj},(∀ b∈fp,H' b=none)->∀ b∈fp,FpOk Y (pins++[(D,oD)]) H' b:=fun {H' oD} hn b hb=>by
  obtain⟨f0,f1,fx,f3,f4,f5⟩:=f2 b hb
  obtain⟨o,e⟩:=hfo b hb
  refine⟨hn b hb,fun z=>?_,fun z=>?_,.inl hb,fun x c e=>by
   rcases csC_sound S I2 e with⟨_,b1⟩ | a1
   ·obtain⟨o,ho⟩:=hfo b hb
    have h1:=Nat.lt_of_lt_of_le (Heap.lt_size ho) hCle
    intro z
    rw[<- z,b1]at h1
    exact absurd h1 (Nat.not_lt.mpr (Nat.le_succ _))
   ·exact f4 x c a1,fun p hp=>?_⟩
  ·have h1:=Nat.lt_of_lt_of_le (Heap.lt_size e) hCle
   have z:b=Hq.objs.size:=z
   rw[z]at h1
   exact Nat.lt_irrefl _ h1
  ·rcases List.mem_cons.mp (I2.stkSub b z)with e | e
   ·exact f1 e
   ·exact fx e
  ·have hp:p∈X.pn++(pins++[(D,oD)]):=hp
   rw[<- List.append_assoc]at hp
   rcases List.mem_append.mp hp with hp | hp
   ·exact f5 p hp
   ·have q:p=(D,oD):=by simpa using hp
    subst q
    exact fun z=>hDfp (by rw[show D=b from z];exact hb)
 have loop:∀ s₃:Shared,s₃ = { s2 with heap:=h₁,toks:=s2.toks } ->
   codeAny (model X.prog X.w) X.A (.compLoop (.ListComp elt [⟨tg,iter,ifs,0⟩] scope pos) 0 (.ref it) (.ref s2.heap.objs.size) (compEnvC scope ((y,Hq.objs.size+1) :: closCl X.env.cells scope.names []) Hq.objs.size X.env))
    (CompEnd X pins σ Q (.ref s2.heap.objs.size) Hq.objs.size) s₃:=by
  rintro s₃ rfl
  have cellD:∀ x c,Y.env.cells.lookup x=some c->c≠D:=fun x c e z=>by
   have z:c=s2.heap.objs.size:=z
   rcases csC_sound S I2 e with⟨_,b1⟩ | a1
   ·have b1:c=Hq.objs.size+1:=b1
    rw[z,hC]at b1
    exact absurd b1 (Nat.ne_of_lt (Nat.lt_succ_of_lt (Nat.lt_succ_self _)))
   ·obtain⟨v,q⟩:=I2.cell x c a1
    have h1:=q.lt
    rw[z]at h1
    exact Nat.lt_irrefl _ h1
  have pinD:∀ p∈X.pn++pins,p.1≠D:=fun p hp z=>by
   have h1:=Heap.lt_size (I2.pin p hp).1
   rw[show p.1=s2.heap.objs.size from z]at h1
   exact Nat.lt_irrefl _ h1
  have inD:∀ {pl:List (Addr×Obj)}{oD:Obj},(D,oD)∈Y.pn++((pins++[(D,oD)])++pl):=fun {pl oD}=>List.mem_append_right _ (List.mem_append_left _ (List.mem_append_right _ (by simp)))
  have inF:∀ {pl:List (Addr×Obj)}{oD:Obj}{p:Addr×Obj},p∈pl->p∈Y.pn++((pins++[(D,oD)])++pl):=fun {pl oD p} hp=>List.mem_append_right _ (List.mem_append_right _ hp)
  refine codeAny_compLoop_any (fun m s'=>∃ i ys H' its ep,m=n-i/\i<=n/\ys.length<=i/\Vals ys its/\Inv Y (pins++[(D,{ cls:=.type "list",data:=.seq its.toArray ep })]) (capt cap σ) H' s'/\tn i s'.heap/\(∀ b∈fp,H' b=none)/\P i ys H') ?_ n ?_
  ·rintro m s3 ⟨i,ys,H3,its,ep,rfl,hin,hyl,rv,I3,st3,fr3,p3⟩
   rcases turn i ys H3 hyl hin p3 with⟨stop,q⟩ |⟨hlt,go,step⟩
   ·refine thn (T.done Y rfl rfl rfl hc i _ s3 _ H3 (fun _ _=>False) I3 (stat fr3) st3 stop) fun r s4 ⟨hr,I4⟩=>?_
    subst hr
    obtain⟨eD,nD,_⟩:=I4.pin (D,{ cls:=.type "list",data:=.seq its.toArray ep }) (List.mem_append_right _ (List.mem_append_right _ (by simp)))
    have nD:H3 D=none:=nD
    have okn:ObjOk X.prog X.w (upd H3 D (.lst ys)) s4.heap D (.lst ys):=⟨Nat.le_trans hyl (Nat.le_trans hin hn),its,ep,rv,eD⟩
    have hok:HOk X.prog X.w (upd H3 D (.lst ys)) s4.heap:=fun b u e=>by
     by_cases hb:b=D
     ·subst hb;rw[upd_same]at e;cases e;exact okn
     ·rw[upd_ne hb]at e
      exact(I4.hok b u e).stay (fun c v _ q=>q) (fun c q=>by rw[upd_ne (ne_of_none q nD)];exact q) fun c xs q=>by rw[upd_ne (ne_of_none q nD)];exact q
    have B:=I4.base
    have u:Un (frs X.stack) fp H2 (upd H3 D (.lst ys)) s2.heap s4.heap :=
     ⟨B.keep,B.slot,fun b o e n hx=>by rw[upd_ne (Nat.ne_of_lt (Heap.lt_size e))];exact B.free b o e n hx,B.there,fun b xs e=>by rw[upd_ne (ne_of_none (B.tups b xs e) nD)];exact B.tups b xs e,
      fun b o xs e=>by rw[upd_ne (ne_of_none (B.frzs b o xs e) nD)];exact B.frzs b o xs e,fun b ps e=>by
       obtain⟨more,z⟩:=B.tbls b ps e
       exact⟨more,by rw[upd_ne (ne_of_none z nD)];exact z⟩⟩
    have IX:Inv X pins σ (upd H3 D (.lst ys)) s4:=I2.call' (ch:=fp) I4.os u hok I4.bare fun b hb=>by
     obtain⟨f0,f1,fx,f3,f4,f5⟩:=f2 b hb
     exact⟨f3,f1,f4,f5⟩
    have nC:(upd H3 D (.lst ys)) Hq.objs.size=none:=by rw[upd_ne (Ne.symm hDC)];exact I4.free
    obtain⟨m',hm',_⟩:=I4.loc
    exact⟨.ref D,_,IX,rfl,q D nD,⟨m',hm'⟩,I2.fpOk hCle nC⟩
   ·refine thn (T.item Y rfl rfl rfl hc i _ s3 _ H3 (fun _ _=>False) I3 (stat fr3) st3 go) fun r s4 ⟨u,hr,h4⟩=>?_
    subst hr
    refine thn h4 fun _ s5 ⟨x,H5,I5,r5,y5,st5,fr5⟩=>?_
    have I5':=I5.pinned (stat fr5) (T.obj _ _ st5)
    refine thn (hg C s2 H2 fp _ s5 _ H5 x u _ I5' r5 (step x H5 y5)) fun _ s6 ⟨σ6,H6,I6,kp,q6⟩=>?_
    refine thn (ht C s2 H2 fp _ s6 σ6 H6 _ I6 q6) fun b s7 ⟨H7,I7,q7⟩=>?_
    cases b with
    |false =>
     rw[if_neg Bool.false_ne_true]at q7 ⊢
     refine⟨n-(i+1),Nat.sub_succ_lt_self n i hlt,i+1,ys,H7,its,ep,rfl,hlt,Nat.le_succ_of_le hyl,rv,I7.unpinned.weak kp.length kp.get,?_,fun b hb=>?_,q7⟩
     ·exact T.keep _ _ _ st5 fun b hb o e=>(I7.pin (b,o) (inF (mem_pinsAt hb e))).1
     ·obtain⟨o,e,d⟩:=T.obj _ _ st5 b hb
      exact(I7.pin (b,o) (inF (mem_pinsAt hb e))).2.1
    |true =>
     rw[if_pos rfl]at q7 ⊢
     refine thn (he C s2 H2 fp _ s7 σ6 H7 _ I7 q7) fun yv s8 ⟨y,H8,I8,r8,q8⟩=>?_
     obtain⟨eD,nD,_⟩:=I8.pin (D,{ cls:=.type "list",data:=.seq its.toArray ep }) inD
     have hsz:its.toArray.size<=sizeLine:=by
      rw[List.size_toArray,<- rv.length]
      exact Nat.le_trans hyl (Nat.le_trans hin hn)
     refine wpAny_list_append_plain (items:=its.toArray) ⟨ep,eD⟩ (fun h9 pl9 sb9=>?_) hsz
     obtain⟨ep',e9⟩:=pl9
     have e9:h9.get? D=some { cls:=.type "list",data:=.seq (its++[yv]).toArray ep' }:=by rw[e9];simp
     have Ia:Inv Y pins σ6 H8 s8:=I8.pins_of fun p hp=>I8.pin p (List.mem_append_right _ (List.mem_append_left _ (List.mem_append_left _ hp)))
     have Ib:Inv Y pins σ6 H8 { s8 with heap:=h9 }:=Ia.turned (it:=D) (t':=s8.toks) (fun b o hb e=>(sb9.2 b hb).trans e) nD hDC (.inr (Nat.le_refl _)) cellD pinD
     have Ic:Inv Y (pins++[(D,{ cls:=.type "list",data:=.seq (its++[yv]).toArray ep' })]) σ6 H8 { s8 with heap:=h9 }:=Ib.pins_of fun p hp=>by
      rcases List.mem_append.mp hp with hp | hp
      ·exact Ib.pin p (List.mem_append_right _ hp)
      ·have q:p=(D,{ cls:=.type "list",data:=.seq (its++[yv]).toArray ep' }):=by simpa using hp
       subst q
       obtain⟨_,_,z1,z2,_⟩:=I8.pin (D,{ cls:=.type "list",data:=.seq its.toArray ep }) inD
       exact⟨e9,nD,z1,z2,fun v z=>by cases z⟩
     refine⟨n-(i+1),Nat.sub_succ_lt_self n i hlt,i+1,ys++[y],H8,its++[yv],ep',rfl,hlt,by simp;omega,Vals.append rv (.cons r8 .nil),Ic.weak kp.length kp.get,?_,fun b hb=>?_,q8⟩
     ·exact T.keep _ _ _ st5 fun b hb o e=>sb9.extBut b o (fun z=>hDfp (by rw[show D=b from Eq.symm z];exact hb)) (I8.pin (b,o) (inF (mem_pinsAt hb e))).1
     ·obtain⟨o,e,d⟩:=T.obj _ _ st5 b hb
      exact(I8.pin (b,o) (inF (mem_pinsAt hb e))).2.1
  ·obtain⟨ep,e⟩:=hacc
   refine⟨0,[],H2,[],ep,rfl,Nat.zero_le _,Nat.le_refl _,.nil,?_,st4,fun b hb=>(f2 b hb).1,p0⟩
   exact cxIc_inv (s4:={ s2 with heap:=h₁,toks:=s2.toks }) S I2 hCle f2 hfo rfl rfl old hns₁ e (Nat.le_refl _) hDC (fun v z=>by cases z) hcl₁
 exact codeAny_compStart_list (loop _ rfl) (T.self X.A 0 _ _ _ st4 (loop _ rfl))
end
open PySem PySem.W PyProof.Rows
theorem Paired.atV{F:V->Dt->Prop}{xs:List V}{ds:List Dt}(h:Paired F xs ds){j:Nat}(h1:j<xs.length)(h2:j<ds.length):F xs[j] ds[j]:=Paired.at h j h1 h2
theorem eq_same{X:Cx}{pins:List (Addr×Obj)}{σ:St}{H:Hp}{s:Shared}(I:Inv X pins σ H s):∀ {n:Nat}{A:Around}{x y:V}{d:Dt}{u v:Value},Dat H n x d->Dat H n y d->RelV x u->RelV y v->A.units+n<cLine->SeqAt.EqAt A s u v true:=by
 have flat:∀ {A:Around}{x y:V}{d:Dt}{u v:Value},Dat H 0 x d->Dat H 0 y d->RelV x u->RelV y v->SeqAt.EqAt A s u v true:=by
  intro A x y d u v hx hy ru rv
  cases d with
  |non=>have ex:x = .non:=hx;have ey:y = .non:=hy;subst ex ey;cases ru;cases rv;exact SeqAt.EqAt.same _
  |bl b=>have ex:x = .bl b:=hx;have ey:y = .bl b:=hy;subst ex ey;cases ru;cases rv;exact SeqAt.EqAt.same _
  |int i =>
   have ex:x = .int i:=hx
   have ey:y = .int i:=hy
   subst ex ey
   obtain⟨t,rfl⟩:=ru
   obtain⟨t',rfl⟩:=rv
   have:=SeqAt.EqAt.int_int (A:=A) (s:=s) i t i t'
   rwa [beq_self_eq_true]at this
  |str z =>
   have ex:x = .str z:=hx
   have ey:y = .str z:=hy
   subst ex ey
   obtain⟨t,rfl⟩:=ru
   obtain⟨t',rfl⟩:=rv
   have:=SeqAt.EqAt.str_str (A:=A) (s:=s) z t z t'
   rwa [beq_self_eq_true]at this
  |lst ds=>exact(show False from hx).elim
  |tup ds=>exact(show False from hx).elim
 intro n
 induction n with
 |zero=>intro A x y d u v hx hy ru rv _;exact flat hx hy ru rv
 |succ n ih =>
  intro A x y d u v hx hy ru rv hu
  cases d with
  |non=>exact flat (d:=.non) hx hy ru rv
  |bl b=>exact flat (d:=.bl b) hx hy ru rv
  |int i=>exact flat (d:=.int i) hx hy ru rv
  |str z=>exact flat (d:=.str z) hx hy ru rv
  |lst ds =>
   obtain⟨a,xs,rfl,xl,ha,px⟩:=hx
   obtain⟨b,ys,rfl,yl,hb,py⟩:=hy
   cases ru
   cases rv
   by_cases e:a=b
   ·subst e;exact SeqAt.EqAt.same _
   ·obtain⟨its,r,pl,hz⟩:=I.list (SqL.of ha)
    obtain⟨its',r',pl',hz'⟩:=I.list (SqL.of hb)
    have l1:=r.length
    have l2:=r'.length
    have l3:xs.length=ds.length:=Paired.length px
    have l4:ys.length=ds.length:=Paired.length py
    have key:=SeqAt.RcAt.lists (A:=A) (e:=fun _=>true) pl.isList pl'.isList (by simp only[List.size_toArray];omega) (by omega) (fun j h1 h2=>by
     simp only[List.size_toArray]at h1 h2
     have jx:j<xs.length:=by omega
     have jy:j<ys.length:=by omega
     obtain⟨u,e1,q1⟩:=r.get (i:=j) (x:=xs[j]) (List.getElem?_eq_getElem jx)
     obtain⟨u',e2,q2⟩:=r'.get (i:=j) (x:=ys[j]) (List.getElem?_eq_getElem jy)
     rw[List.getElem?_eq_getElem h1]at e1
     rw[List.getElem?_eq_getElem h2]at e2
     have e1:=Option.some.inj e1
     have e2:=Option.some.inj e2
     simp only[List.getElem_toArray]
     rw[e1,e2]
     exact ih (A:=A.in1) (d:=ds[j]'(by omega)) (Paired.atV px jx (by omega)) (Paired.atV py jy (by omega)) q1 q2 (by show A.units+1+n<cLine;omega))
    have t:(List.range its.toArray.size).all (fun _=>true)=true:=by simp
    rw[t]at key
    exact SeqAt.EqAt.of_refs e key
  |tup ds =>
   obtain⟨a,xs,rfl,xl,ha,px⟩:=hx
   obtain⟨b,ys,rfl,yl,hb,py⟩:=hy
   cases ru
   cases rv
   by_cases e:a=b
   ·subst e;exact SeqAt.EqAt.same _
   ·obtain⟨its,r,pl,hz⟩:=I.tuple (SqT.of ha)
    obtain⟨its',r',pl',hz'⟩:=I.tuple (SqT.of hb)
    have l1:=r.length
    have l2:=r'.length
    have l3:xs.length=ds.length:=Paired.length px
    have l4:ys.length=ds.length:=Paired.length py
    have key:=SeqAt.RcAt.tuples (A:=A) (e:=fun _=>true) pl pl' (by omega) (fun j h1 h2=>by
     simp only[List.size_toArray]at h1 h2
     have jx:j<xs.length:=by omega
     have jy:j<ys.length:=by omega
     obtain⟨u,e1,q1⟩:=r.get (i:=j) (x:=xs[j]) (List.getElem?_eq_getElem jx)
     obtain⟨u',e2,q2⟩:=r'.get (i:=j) (x:=ys[j]) (List.getElem?_eq_getElem jy)
     rw[List.getElem?_eq_getElem h1]at e1
     rw[List.getElem?_eq_getElem h2]at e2
     have e1:=Option.some.inj e1
     have e2:=Option.some.inj e2
     simp only[List.getElem_toArray]
     rw[e1,e2]
     exact ih (A:=A.in1) (d:=ds[j]'(by omega)) (Paired.atV px jx (by omega)) (Paired.atV py jy (by omega)) q1 q2 (by show A.units+1+n<cLine;omega))
    have t:((List.range (min its.toArray.size its'.toArray.size)).all (fun _=>true) && its.toArray.size == its'.toArray.size)=true:=by
     simp only[List.size_toArray]
     rw[show its.length=its'.length by omega]
     simp
    rw[t]at key
    exact SeqAt.EqAt.of_refs e key
noncomputable def seqD:Dt->Bool
 | .lst _=>true
 | .tup _=>true
 | _=>false
noncomputable def rSame(b:Bool):R2:=fun x y H Q=>∃ n d,Dat H (n+1) x d/\Dat H (n+1) y d/\seqD d=true/\n<=50/\Q (.bl b) H
section
variable{X:Cx}
theorem items_same{pins:List (Addr×Obj)}{σ:St}{H:Hp}{s:Shared}(I:Inv X pins σ H s){n:Nat}{A:Around}{xs ys:List V}{ds:List Dt}{us vs:List Value}(px:Paired (Dat H n) xs ds)(py:Paired (Dat H n) ys ds)(r:Vals xs us)(r':Vals ys vs)(hu:A.units+n<cLine) :
  ∀ j (h1:j<us.toArray.size) (h2:j<vs.toArray.size),SeqAt.EqAt A s us.toArray[j] vs.toArray[j] true:=fun j h1 h2=>by
 have l1:=r.length
 have l2:=r'.length
 have l3:xs.length=ds.length:=Paired.length px
 have l4:ys.length=ds.length:=Paired.length py
 simp only[List.size_toArray]at h1 h2
 have jx:j<xs.length:=by omega
 have jy:j<ys.length:=by omega
 obtain⟨u,e1,q1⟩:=r.get (i:=j) (x:=xs[j]) (List.getElem?_eq_getElem jx)
 obtain⟨u',e2,q2⟩:=r'.get (i:=j) (x:=ys[j]) (List.getElem?_eq_getElem jy)
 rw[List.getElem?_eq_getElem h1]at e1
 rw[List.getElem?_eq_getElem h2]at e2
 have e1:=Option.some.inj e1
 have e2:=Option.some.inj e2
 simp only[List.getElem_toArray]
 rw[e1,e2]
 exact eq_same I (d:=ds[j]'(by omega)) (Paired.atV px jx (by omega)) (Paired.atV py jy (by omega)) q1 q2 hu
theorem op_neS(hu:X.A.units+64<cLine):OpR X (compareOp .NotEq) (rSame false):=by
 intro pins s σ H x y v u Q I rx ry h
 obtain⟨n,d,hx,hy,sd,hn,q⟩:=h
 have fin:EP X pins σ Q (.bool false) s:=⟨.bl false,H,I,rfl,q⟩
 cases d with
 |lst ds =>
  obtain⟨a,xs,rfl,xl,ha,px⟩:=hx
  obtain⟨b,ys,rfl,yl,hb,py⟩:=hy
  cases rx
  cases ry
  obtain⟨its,r,pl,hz⟩:=I.list (SqL.of ha)
  obtain⟨its',r',pl',hz'⟩:=I.list (SqL.of hb)
  have l1:=r.length
  have l2:=r'.length
  have l3:xs.length=ds.length:=Paired.length px
  have l4:ys.length=ds.length:=Paired.length py
  refine SeqAt.RcNeAt.lists (e:=fun _=>true) pl.isList pl'.isList (by simp only[List.size_toArray];omega) (by omega) (items_same I px py r r' (by show X.A.units+1+n<cLine;omega)) _ _ _ _ ?_
  rw[show(!(List.range its.toArray.size).all (fun _=>true))=false by simp]
  exact fin
 |tup ds =>
  obtain⟨a,xs,rfl,xl,ha,px⟩:=hx
  obtain⟨b,ys,rfl,yl,hb,py⟩:=hy
  cases rx
  cases ry
  obtain⟨its,r,pl,hz⟩:=I.tuple (SqT.of ha)
  obtain⟨its',r',pl',hz'⟩:=I.tuple (SqT.of hb)
  have l1:=r.length
  have l2:=r'.length
  have l3:xs.length=ds.length:=Paired.length px
  have l4:ys.length=ds.length:=Paired.length py
  refine SeqAt.RcNeAt.tuples (e:=fun _=>true) pl pl' (by omega) (items_same I px py r r' (by show X.A.units+1+n<cLine;omega)) _ _ _ _ ?_
  rw[show(!((List.range (min its.toArray.size its'.toArray.size)).all (fun _=>true) && its.toArray.size == its'.toArray.size))=false by simp only[List.size_toArray];rw[show its.length=its'.length by omega];simp]
  exact fin
 |non=>cases sd
 |bl b=>cases sd
 |int i=>cases sd
 |str z=>cases sd
end
theorem hu64{A:Around}{k:Nat}(hr:Room k A):A.units+64<cLine:=hr.units
theorem dat_ints{H:Hp}{a:Addr}{ns:List Int}(n:Nat)(h:H a=some (.lst (ns.map V.int)))(l:ns.length<=1000):Dat H (n+1) (.ref a) (.lst (ns.map Dt.int)):=by
 refine⟨a,_,rfl,by rw[List.length_map];exact l,h,?_⟩
 clear h l
 induction ns with
 |nil=>exact .nil
 |cons x r ih=>refine .cons ?_ ih;cases n <;> rfl
theorem dat_intsT{H:Hp}{a:Addr}{ns:List Int}(n:Nat)(h:H a=some (.tup (ns.map V.int)))(l:ns.length<=1000):Dat H (n+1) (.ref a) (.tup (ns.map Dt.int)):=by
 refine⟨a,_,rfl,by rw[List.length_map];exact l,h,?_⟩
 clear h l
 induction ns with
 |nil=>exact .nil
 |cons x r ih=>refine .cons ?_ ih;cases n <;> rfl
open PySem PySem.Spec PyProof.Rows
section
variable{X:Cx}{elt tg iter:Expr}{ifs:List Expr}{scope:Scope}{pos:Pos}{y:Str}{N':List Str}{cap:List (Option Nat)}{wi:TI}{g:TG}{tc:TT}{te:TE}
theorem ps_compC{i:Nat}{x:Str}{pos' spos:Pos}(hN:X.N.Nodup)(hx:X.N[i]?=some x)(hl:Loc X.env.scope x)(hc:X.calm=true)(S:CellScope y N' cap X.N X.env.scope scope)(hi:PI X tg iter wi)(hg:∀ C s H fp,PG (cxIc X y N' scope C s H fp) tg g)
  (ht:∀ C s H fp,PF (cxIc X y N' scope C s H fp) ifs tc) (he:∀ C s H fp,PE (cxIc X y N' scope C s H fp) elt te)
  (hs:∀ x,foldedSetIterable iter X.env x=pure x:=by intro _;rfl) (hsw:swapsWith (.ListComp elt [⟨tg,iter,ifs,0⟩] scope pos) (some (.Name x pos')) spos.line X.env=pure true:=by rfl)
  (hf:X.fn x=true\/X.env.scope.names.lookup x=some .local:=by first | exact .inl rfl | exact .inr rfl | assumption) :
  PS X (.Assign [.Name x pos'] (.ListComp elt [⟨tg,iter,ifs,0⟩] scope pos) spos) (tAsg (tComp cap wi g tc te) (gName i)):=by
 intro pins s σ H D I h
 rw[exec_Assign_Name_used _ _ _ _ hsw]
 refine wpAny_bind (wpAny_standAt (wpAny_bind ?_))
 show wpAny _ _ (do let _ <- comprehension (.ListComp elt [⟨tg,iter,ifs,0⟩] scope pos) scope X.env _ (newList []) false (eval iter X.env) (some (assign (.Name x pos') X.env))) _ _ s
 refine wpAny_bind (wpAny_mono (wpAny_comprehension_free (use:=some (assign (.Name x pos') X.env)) (Q:=fun _ s'=>SP X pins D .next s') rfl hs (closureFor_cells (S.clos I)) S.kind S.loc
  (thn (comp_runC (pos:=pos) hc S hi hg ht he I h) fun x s1 h1=>thn h1 fun it s2 h2=>thn h2 fun acc s3 h3=>thn h3 fun cenv s4 h4=>?_)) (fun _ s' hq=>wpAny_pure (wpAny_pure hq)) fun _ _ e=>e)
 refine codeAny_mono h4 fun r s' hr=>?_
 cases r with
 |error x=>exact hr.elim
 |ok f =>
  obtain⟨v,H',I',rv,q,⟨m,hn⟩,f0,f1,f2,f3,f4,f5⟩:=hr
  show wpAny _ _ (assign (.Name _ pos') X.env acc) _ _ _
  refine wpAny_assign_Name (store_ok2 I' hN hx hl rv (fun s'' I'' ⟨a,sb,ha⟩=>?_) hf)
  have hac:cenv.locals≠a:=by
   rcases ha with ha | ha
   ·rw[ha];exact f1
   ·exact Ne.symm (f4 _ a ha)
  refine⟨m,hn.sameBut sb hac,fun h' sb'=>⟨_,H',I''.turned (it:=cenv.locals) (t':=s''.toks) (fun b o hb e=>(sb'.2 b hb).trans e) f0 f1 f3 f4 f5,q⟩⟩
end
open PySem PySem.W PyProof.Rows
section
variable{X:Cx}
noncomputable def tBM0h(r:V->List V->Hp->VK->Prop)(to:TE):TE:=fun σ H Q=>to σ H fun x H1=>(∃ p xs,x = .ref p/\H1 p=some (.lst xs))/\r x [] H1 Q
theorem pe_bm0H{id:String}{name:Str}{r:V->List V->Hp->VK->Prop}{o:Expr}{to:TE}{apos cpos:Pos}(slot:Slot "list" name id)(hty:typeOf (.builtin id)=pure (.type "method_descriptor"))(hm:MtR X id r)(ho:PE X o to)
  (hbase:attributeBase o name X.env (eval o X.env)=eval o X.env:=by rfl) (hline:(apos.endLine == cpos.line)=true:=by rfl):PE X (.Call (.Attribute o name apos) [] [] cpos) (tBM0h r to):=by
 intro pins s σ H Q I h
 refine wpAny_Call_method0_late hbase hline (thn (ho pins s σ H _ I h) fun v s1 ⟨x,H1,I1,r1,⟨p,xs,ex,hx⟩,q1⟩=>?_)
 subst ex
 obtain⟨h1,h2⟩:=tyV_is (T:="list") I1 r1 (.inl ⟨rfl,xs,SqL.of hx⟩)
 exact⟨"list",id,PySem.F.plainAttrs_list,slot,hty,h1,h2,Calls.callWith_builtin rfl (PySem.evalArgs_none (hm pins s1 σ H1 _ [] v [] Q I1 r1 .nil q1))⟩
end
end L2
namespace K40
open PySem L2 PyProof.Rows
structure CalF(P:Program)(w:World)(K:PySem.W.Frag)(mg:Str->Option Value)(base:Heap)(k:Nat)(x:Str)(ps:List Str)(sp:Sp)(g:Addr)(gd:FuncData):Prop where
 ok:FnOk P w K mg base CX0 k g gd ps sp
 mg:mg x=some (.ref g)
 kp:PySem.W.keepIn K (.ref g)=true
 bd:Binds K gd ps []
structure Txt2(mg:Str->Option Value):Prop where
 all:mg "all" = none
 zip:mg "zip" = none
 enum:mg "enumerate" = none
 dict:mg "dict" = none
noncomputable abbrev scO(l:List (Str×NameKind)):Scope:={ kind:=.function,names:=l,isGenerator:=false,isCoroutine:=false }
end K40
namespace HT
open PySem PySem.Spec PyProof.Rows
end HT
namespace L2
open PySem PySem.W PyProof.Rows
variable{X:Cx}
noncomputable def rCatB:R2:=fun x y H Q=>∃ a b xs ys,x = .ref a/\y = .ref b/\H a=some (.tup xs)/\H b=some (.tup ys)/\xs.length+ys.length<=sizeLine/\∀ p H',Same H H'->H' p=some (.tup (xs++ys))->Q (.ref p) H'
theorem op_catB:OpR X (binaryOp .Add) rCatB:=by
 intro pins s σ H x y v u Q I rx ry h
 obtain⟨a,b,xs,ys,rfl,rfl,ha,hb,hz,q⟩:=h
 refine op_catA pins s σ H _ _ v u Q I rx ry ⟨a,b,xs,ys,rfl,rfl,SqT.of ha,SqT.of hb,hz,fun e=>q b H (Same.refl _) ?_,fun _ e=>q a H (Same.refl _) ?_,fun _ _ p hp=>q p _ (Same.new hp) upd_same⟩
 ·rw[e];exact hb
 ·rw[e,List.append_nil];exact ha
open PySem PySem.W PyProof.Rows Srt HT
end L2
namespace SetA
open PySem L2
end SetA
namespace L2
open PySem PySem.W PyProof.Rows
theorem pe_bmK{X:Cx}(K:PySem.W.Frag)(eK:X.K=K){T id:String}{name:Str}{r:V->List V->Hp->VK->Prop}{o e:Expr}{es:List Expr}{to:TE}{t:TA}{apos cpos:Pos}(pa:PlainAttrs T)(slot:Slot T name id)(hty:typeOf (.builtin id)=pure (.type "method_descriptor"))(hm:MtR X id r)(ho:PE X o to)(ha:PA X (e :: es) t)
  (hbase:attributeBase o name X.env (eval o X.env)=eval o X.env:=by rfl)
  (hfew:((backTo cpos (starEach (e :: es) X.env)).all (fun x=>!x.1) && (backToKw cpos (keywordEach [] X.env)).all (fun x=>x.1.isSome) && decide ((e :: es).length+([]:List Keyword).length+(if([]:List Keyword).isEmpty then 0 else 1)<30))=true:=by rfl)
  (hline:(apos.endLine == cpos.line)=true:=by rfl) (hs:starEach (e :: es) X.env=(false,eval e X.env) :: starEach es X.env:=by rfl) (hplain:(backTo cpos (starEach es X.env)).any (·.1)=false:=by rfl):PE X (.Call (.Attribute o name apos) (e :: es) [] cpos) (tBM K T r to t):=by
 subst eK
 exact pe_bm pa slot hty hm ho ha hbase hfew hline hs hplain
theorem call_len_seqK{X:Cx}(K:PySem.W.Frag)(e:X.K=K):CallR X (.builtin "len") (fun xs H Q=>∃ p ys,xs=[.ref p]/\(SqL K H p ys\/SqT K H p ys)/\Q (.int ys.length) H):=e▸call_len_seq
theorem map_eraseI:∀ (l:List Int) (k:Nat),(l.map V.int).eraseIdx k=(l.eraseIdx k).map V.int
 |[],k=>by cases k <;> rfl
 |x :: r,0=>rfl
 |x :: r,k+1=>by
  show V.int x :: (r.map V.int).eraseIdx k=V.int x :: (r.eraseIdx k).map V.int
  rw[map_eraseI r k]
noncomputable def SIs(b:Bool)(H:Hp)(a:Addr)(xs:List V):Prop:=match b with
 |true=>H a=some (.tup xs)
 |false=>H a=some (.lst xs)
theorem SIs.sqB{b:Bool}{K:PySem.W.Frag}{H:Hp}{a:Addr}{xs:List V}(h:SIs b H a xs):SqB b K H a xs:=by
 cases b
 ·exact SqL.of h
 ·exact SqT.of h
theorem SIs.same{b:Bool}{H H':Hp}{a:Addr}{xs:List V}(h:SIs b H a xs)(s:Same H H'):SIs b H' a xs:=by
 cases b
 ·exact s _ _ h
 ·exact s _ _ h
end L2
namespace K40
open PySem L2 PyProof.Rows
theorem upto_nodup(n:Nat):(upto n).Nodup:=by
 unfold upto List.Nodup
 rw[List.pairwise_map]
 exact(List.nodup_range (n:=n)).imp fun {a b} ne e=>ne (by lia)
theorem Kept.same{p:Addr}{H H':Hp}(h:H p=none)(k:Kept p H H'):Same H H':=fun b o e=>k b o (ne_of_none e h) e
theorem WebAt.kept{H H':Hp}{p t:Addr}{n:Nat}{ties:List Tie}{N:Nat}(W:WebAt H t n ties)(B:BoxAt H p N)(k:Kept p H H'):WebAt H' t n ties:=by
 obtain⟨⟨ts,as,h1,h2,h3⟩,l⟩:=W
 obtain⟨a,b,c,e,_⟩:=B
 have ne:∀ {q xs},H q=some (.tup xs)->q≠p:=fun hq=>ne_of hq e (by intro z;cases z)
 exact⟨⟨ts,as,k _ _ (ne h1) h1,k _ _ (ne h2) h2,Paired.mapP h3 fun a x e=>k _ _ (ne e) e⟩,l⟩
theorem BoxAt.same{H H':Hp}{p:Addr}{N:Nat}(B:BoxAt H p N)(s:Same H H'):BoxAt H' p N:=by
 obtain⟨a,b,c,e,r⟩:=B
 exact⟨a,b,c,s _ _ e,r⟩
open PySem L2 PyProof.Rows
structure PostOk(n:Nat)(ps:List Int):Prop where
 nd:ps.Nodup
 rg:∀ x∈ps,0<=x/\x<n
 lo:1<=ps.length
 hi:ps.length<=6
noncomputable def spPo:Sp:=fun vs H Q _=>∃ (p:Addr) (n N:Nat) (mo:Int),vs=[.ref p,.int n,.int mo]/\BoxAt H p N/\N+100<2 ^ 40/\2<=n/\n<=30/\2<=mo/\mo<=6 /\
 ∀ (l:Addr) (ps:List Int) (H':Hp),H l=none->H' l=some (.lst (ps.map V.int))->l≠p->PostOk n ps->2<=ps.length->(ps.length:Int)<=mo->BoxAt H' p (N+20)->Kept p H H'->Q (.ref l) H'
section
variable{P:Program}{w:World}{K:PySem.W.Frag}{mg:Str->Option Value}{base:Heap}
noncomputable abbrev nPo:List Str:=["_law_box_here","_law_many_here","_law_most","_law_some","_law_found"]
theorem scPo:FnScope nPo ["_law_box_here","_law_many_here","_law_most"] (defScope sPosts):=⟨rfl,rfl,rfl,by decide +kernel,rfl,by decide +kernel,by decide +kernel⟩
theorem csPo:CompScope ["_law_turn","_law_box_here","_law_some"] [none,some 0,some 3] nPo (defScope sPosts) (scO [(".0",.local),("_law_turn",.local),("_law_take",.globalImplicit),("len",.globalImplicit),("_law_box_here",.free),("_law_some",.free)]):=⟨rfl,by decide +kernel,by decide +kernel,by decide +kernel,rfl,capB_ok (by decide +kernel)⟩
theorem ndPo:(["_law_turn","_law_box_here","_law_some"]:List Str).Nodup:=by decide +kernel
theorem ok_po{f g:Addr}{fd gd:FuncData}(F:Fun K "_law_posts" "_law_posts" sPosts f fd)(T:Txt mg)(G:TakeF P w K mg base g gd):FnOk P w K mg base CX0 2 f fd ["_law_box_here","_law_many_here","_law_most"] spPo:=by
 refine F.ok scPo (fun vs H Q E h=>?_) (fun cdv A outer s H vs Q E hr h=>?_)
 ·obtain⟨p,n,N,mo,rfl,_⟩:=h
  rfl
 ·obtain⟨p,n,N,mo,rfl,B,hN,n1,n30,mo0,mo6,q⟩:=h
  refine⟨_,pss_cons (ps_set (i:=3) scPo.nd rfl (Or.inr rfl) (pe_callTy (call_list_rng rfl) (by rfl) T.list boot_list (@pa_call _ _ _ _ _ _ _ _ (pe_callTy (call_range _) (by rfl) T.range boot_range (@pa_nam _ _ _ _ _ _ (pv 1) pa_nil)) pa_nil)))
   (pss_cons (ps_comp (i:=4) scPo.nd rfl (Or.inl rfl) rfl csPo (pi_range1 rfl T.range (@pa_call _ _ _ _ _ _ _ _ (pe_callB (call_min2 rfl) (by rfl) T.min boot_min (@pa_nam _ _ _ _ _ _ (pv 1) (@pa_bin _ _ _ _ _ _ _ _ (pe_op op_add pe_int (pe_call G.ok hr rfl G.mg G.kp G.bd .nil pass0 (@pa_nam _ _ _ _ _ _ (pv 0) (@pa_bin _ _ _ _ _ _ _ _ (pe_op op_sub (pv 2) pe_int) pa_nil)))) pa_nil))) pa_nil))
    (fun C s H fp=>pg_name (i:=0) ndPo rfl (Or.inl rfl)) (fun C s H fp=>pf_nil)
    (fun C s H fp=>pe_bmK K rfl PySem.F.plainAttrs_list PySem.F.slot_list_pop PySem.F.type_list_pop mt_popAt (pv 2) (@pa_call _ _ _ _ _ _ _ _ (pe_call G.ok hr rfl G.mg G.kp G.bd .nil pass0 (@pa_nam _ _ _ _ _ _ (pv 1) (@pa_call _ _ _ _ _ _ _ _ (pe_callB (call_len_seqK K rfl) (by rfl) T.len PySem.boot_len (@pa_nam _ _ _ _ _ _ (pv 2) pa_nil)) pa_nil))) pa_nil)))
   (pss_one (ps_ret (pe_callB call_sortedI (by rfl) T.sorted boot_sorted (@pa_nam _ _ _ _ _ _ (pv 4) pa_nil))))),?_⟩
  refine⟨_,rfl,_,rfl,fun r hr=>⟨r,_,rfl,upd_same,by lia,by lia,fun so hso=>?_⟩⟩
  rw[show((n:Int)).toNat=n by lia]
  have so0:H so=none:=(Same.new (o:=.rng 0 (n:Int)) hr).free hso
  have sop:so≠p:=B.ne so0
  have s1:=(Same.new (o:=.rng 0 (n:Int)) hr).trans (Same.new (o:=.lst ((upto n).map V.int)) hso)
  have gs:(upd (upd H r (.rng 0 (n:Int))) so (.lst ((upto n).map V.int))) so=some (.lst ((upto n).map V.int)):=upd_same
  generalize (upd (upd H r (.rng 0 (n:Int))) so (.lst ((upto n).map V.int)))=H1 at s1 gs
  have B1:=B.same s1
  refine⟨_,rfl,_,rfl,_,rfl,_,_,rfl,rfl,p,_,N,rfl,B1,by lia,by lia,by lia,fun z H2 z0 z1 B2 k2=>?_⟩
  refine⟨_,_,rfl,rfl,_,_,rfl,_,rfl,by split <;> lia,by split <;> lia,?_⟩
  obtain⟨ct,ec,c1,c2,c3⟩:∃ ct:Nat,(if 2+z <(n:Int)then 2+z else(n:Int)).toNat=ct/\ct<=n/\(ct:Int)<=mo/\2<=ct:=⟨_,rfl,by split <;> lia,by split <;> lia,by split <;> lia⟩
  rw[ec]
  have k1:Kept p H H1:=fun b o _ e=>s1 b o e
  refine comp_range (lo:=0) (n:=ct) (fun j ys G2=>BoxAt G2 p (N+1+j)/\Kept p H G2/\∃ (rs qs:List Int),G2 so=some (.lst (rs.map V.int))/\ys=qs.map V.int/\(qs++rs).Perm (upto n)/\qs.length=j) (by rw[sizeLine_eq];omega)
   ⟨B2,k1.trans k2,upto n,[],k2 _ _ sop gs,rfl,.refl _,rfl⟩ ?_ ?_
  ·rintro j ys G2 hj ⟨B3,k3,rs,qs,gs3,rfl,pm,ql⟩
   have rl:qs.length+rs.length=n:=by
    have:=pm.length_eq
    rw[List.length_append,upto_length]at this
    exact this
   refine⟨⟨rfl,rfl,trivial⟩,tTru_if ⟨_,rfl,.inl ⟨rfl,_,SqL.of gs3⟩,_,rfl,_,rfl,so,_,rfl,.inl (SqL.of gs3),p,_,_,rfl,B3,by lia,by rw[List.length_map];lia,by rw[List.length_map];lia,fun y G3 y0 y1 B4 k4=>?_⟩⟩
   rw[List.length_map]at y1
   obtain⟨k,rfl⟩:∃ k:Nat,y=(k:Int):=⟨y.toNat,by lia⟩
   have kl:k<rs.length:=by omega
   have gs4:=k4 _ _ sop gs3
   refine⟨so,rs.map V.int,(k:Int),k,V.int rs[k],rfl,rfl,gs4,by lia,by lia,?_,by rw[List.getElem?_map,List.getElem?_eq_getElem kl];rfl,?_⟩
   ·unfold seqIndex?
    rw[List.length_map]
    simp
    omega
   rw[map_eraseI]
   refine⟨(B4.put sop).mono (by lia),(k3.trans k4).put so0,rs.eraseIdx k,qs++[rs[k]],upd_same,by rw[List.map_append];rfl,?_,by rw[List.length_append,ql];rfl⟩
   rw[List.append_assoc]
   exact(List.Perm.append_left _ (SetA.cut_perm k rs kl)).trans pm
  ·rintro ys G2 yl ⟨B3,k3,rs,qs,gs3,rfl,pm,ql⟩ D hD
   have sD:=Same.new (o:=.lst (qs.map V.int)) hD
   refine⟨_,rfl,D,qs,rfl,SqL.of upd_same,by omega,fun l ms hl pq _=>?_⟩
   have hl2:=sD.free hl
   have sL:=Same.new (o:=.lst (ms.map V.int)) hl
   refine q l ms _ (k3.free B3 hl2) upd_same (B3.ne hl2) ?_ (by rw[pq.length_eq];lia) (by rw[pq.length_eq];lia) (((B3.same sD).same sL).mono (by lia)) (k3.trans (fun b o _ e=>sL b o (sD b o e)))
   have nd:=upto_nodup n
   have ndq:(qs++rs).Nodup:=pm.nodup_iff.mpr nd
   refine⟨pq.nodup_iff.mpr (List.nodup_append.mp ndq).1,fun x hx=>?_,by rw[pq.length_eq];lia,by rw[pq.length_eq];omega⟩
   have hx:x∈upto n:=pm.mem_iff.mp (List.mem_append_left _ (pq.mem_iff.mp hx))
   unfold upto at hx
   obtain⟨i,hi,e⟩:=List.mem_map.mp hx
   have:=List.mem_range.mp hi
   omega
end
open PySem L2 PyProof.Rows
noncomputable def besideOf(ties:List Tie)(i:Int):List (Int×Int):=ties.flatMap fun x=>if x.1=i then [(x.2.1,x.2.2)]else if x.2.1=i then [(x.1,x.2.2)]else []
theorem besideOf_snoc{ties:List Tie}{x:Tie}{i:Int}:besideOf (ties++[x]) i=besideOf ties i++if x.1=i then [(x.2.1,x.2.2)]else if x.2.1=i then [(x.1,x.2.2)]else []:=by
 unfold besideOf
 rw[List.flatMap_append,List.flatMap_cons,List.flatMap_nil,List.append_nil]
theorem beside_len:∀ (ties:List Tie) (i:Int),(besideOf ties i).length<=ties.length
 |[],_=>Nat.le_refl _
 |x :: r,i=>by
  unfold besideOf
  rw[List.flatMap_cons,List.length_append]
  have:=beside_len r i
  unfold besideOf at this
  have h2:(if x.1=i then [(x.2.1,x.2.2)]else if x.2.1=i then [(x.1,x.2.2)]else []).length<=1:=by
   split
   ·exact Nat.le_refl _
   ·split
    ·exact Nat.le_refl _
    ·exact Nat.zero_le _
  simp only[List.length_cons]
  lia
open PySem L2 PyProof.Rows
noncomputable def BesAt(H:Hp)(as:List Addr)(ties:List Tie):Prop:=∀ (i:Nat) (h:i<as.length),∃ cs:List Addr,H as[i]=some (.lst (cs.map V.ref))/\Paired (fun c (x:Int×Int)=>H c=some (.tup [.int x.1,.int x.2])) cs (besideOf ties i)
theorem BesAt.same{H H':Hp}{as:List Addr}{ties:List Tie}(B:BesAt H as ties)(s:Same H H'):BesAt H' as ties:=fun i h=>by
 obtain⟨cs,e,p⟩:=B i h
 exact⟨cs,s _ _ e,Paired.mapP p fun c x z=>s _ _ z⟩
theorem BesAt.put{H:Hp}{as:List Addr}{g:Int->List (Int×Int)}{j:Nat}{y:Int×Int}{tp:Addr}{cs0:List Addr}(nd:as.Nodup)(hj:j<as.length)
  (B:∀ (i:Nat) (h:i<as.length),∃ cs:List Addr,H as[i]=some (.lst (cs.map V.ref))/\Paired (fun c (x:Int×Int)=>H c=some (.tup [.int x.1,.int x.2])) cs (g i)) (e0:H as[j]=some (.lst (cs0.map V.ref))) (ht:H tp=some (.tup [.int y.1,.int y.2])) :
  ∀ (i:Nat) (h:i<as.length),∃ cs:List Addr,(upd H as[j] (.lst (cs0.map V.ref++[.ref tp]))) as[i]=some (.lst (cs.map V.ref))/\Paired (fun c (x:Int×Int)=>(upd H as[j] (.lst (cs0.map V.ref++[.ref tp]))) c=some (.tup [.int x.1,.int x.2])) cs (g i++if(i:Int)=j then [y]else []):=fun i h=>by
 obtain⟨cs,e,p⟩:=B i h
 have p2:Paired (fun c (x:Int×Int)=>(upd H as[j] (.lst (cs0.map V.ref++[.ref tp]))) c=some (.tup [.int x.1,.int x.2])) cs (g i):=Paired.mapP p fun c x z=>by rw[upd_ne (ne_of z e0 (by intro z;cases z))];exact z
 by_cases ij:i=j
 ·subst ij
  rw[e]at e0
  have ec:cs0=cs:=by
   injection e0 with e0
   injection e0 with e0
   have:=congrArg (List.map (fun v=>match v with | V.ref a=>a | _=>0)) e0
   rw[List.map_map,List.map_map]at this
   have idl:∀ l:List Addr,l.map ((fun v=>match v with | V.ref a=>a | _=>0) ∘ V.ref)=l:=fun l=>by
    induction l with
    |nil=>rfl
    |cons a r ih=>rw[List.map_cons,ih];rfl
   rw[idl,idl]at this
   exact this.symm
  subst ec
  refine⟨cs0++[tp],by rw[upd_same,List.map_append];rfl,?_⟩
  rw[if_pos rfl]
  exact Paired.snoc p2 (by rw[upd_ne (ne_of ht e (by intro z;cases z))];exact ht)
 ·have ne:as[i]≠as[j]:=fun z=>ij ((List.getElem_inj nd).mp z)
  refine⟨cs,by rw[upd_ne ne];exact e,?_⟩
  rw[if_neg (by lia),List.append_nil]
  exact p2
noncomputable def spBes:Sp:=fun vs H Q _=>∃ (t:Addr) (n:Nat) (ties:List Tie),vs=[.ref t]/\WebAt H t n ties/\(∀ x∈ties,TieOk n x)/\n<=1000 /\
 ∀ (b:Addr) (as:List Addr) (H':Hp),H' b=some (.lst (as.map V.ref))->as.length=n->BesAt H' as ties->Same H H'->Q (.ref b) H'
section
variable{P:Program}{w:World}{K:PySem.W.Frag}{mg:Str->Option Value}{base:Heap}
noncomputable abbrev nBes:List Str:=["web","many","ties","beside","a","b","weight"]
theorem scBes:FnScope nBes ["web"] (defScope sBesideEach):=⟨rfl,rfl,rfl,by decide +kernel,rfl,by decide +kernel,by decide +kernel⟩
theorem csBes:CompScope ["place"] [none] nBes (defScope sBesideEach) (scO [(".0",.local),("place",.local)]):=⟨rfl,by decide +kernel,by decide +kernel,by decide +kernel,rfl,capB_ok (by decide +kernel)⟩
theorem ndBes:(["place"]:List Str).Nodup:=by decide +kernel
theorem ok_bes{f:Addr}{fd:FuncData}(F:Fun K "beside_each" "beside_each" sBesideEach f fd)(T:Txt mg):FnOk P w K mg base CX0 1 f fd ["web"] spBes:=by
 refine F.ok scBes (fun vs H Q E h=>?_) (fun cdv A outer s H vs Q E hr h=>?_)
 ·obtain⟨t,n,ties,rfl,_⟩:=h
  rfl
 ·obtain⟨t,n,ties,rfl,W,ok,nb,q⟩:=h
  obtain⟨⟨ts,bs,h1,h2,h3⟩,len⟩:=id W
  have h3l:bs.length=ties.length:=h3.length
  refine⟨_,pss_cons (ps_asg (pv 0) (pg_tup (n:=2) rfl (pgs_cons (pg_name (i:=1) scBes.nd rfl (Or.inl rfl)) (pgs_cons (pg_name (i:=2) scBes.nd rfl (Or.inl rfl)) pgs_nil))))
   (pss_cons (ps_comp (i:=3) scBes.nd rfl (Or.inl rfl) rfl csBes (pi_range1 rfl T.range (@pa_nam _ _ _ _ _ _ (pv 1) pa_nil)) (fun C s H fp=>pg_name (i:=0) ndBes rfl (Or.inl rfl)) (fun C s H fp=>pf_nil) (fun C s H fp=>@pe_lst _ _ _ _ pa_nil))
   (pss_cons (ps_for PassesOwn.never rfl (pi_tup (pv 2)) (pg_tup (n:=3) rfl (pgs_cons (pg_name (i:=4) scBes.nd rfl (Or.inl rfl)) (pgs_cons (pg_name (i:=5) scBes.nd rfl (Or.inl rfl)) (pgs_cons (pg_name (i:=6) scBes.nd rfl (Or.inl rfl)) pgs_nil))))
    (pss_cons (ps_expr (pe_bm PySem.F.plainAttrs_list PySem.F.slot_list_append PySem.F.type_list_append mt_append (pe_ix ix_list (pv 3) (pv 4) (fun _ _=>rfl)) (@pa_tup _ _ _ _ _ _ _ (@pe_tup _ _ _ _ _ (@pa_nam _ _ _ _ _ _ (pv 5) (@pa_nam _ _ _ _ _ _ (pv 6) pa_nil))) pa_nil)))
    (pss_one (ps_expr (pe_bm PySem.F.plainAttrs_list PySem.F.slot_list_append PySem.F.type_list_append mt_append (pe_ix ix_list (pv 3) (pv 5) (fun _ _=>rfl)) (@pa_tup _ _ _ _ _ _ _ (@pe_tup _ _ _ _ _ (@pa_nam _ _ _ _ _ _ (pv 4) (@pa_nam _ _ _ _ _ _ (pv 6) pa_nil))) pa_nil))))))
   (pss_one (ps_ret (pv 3))))),?_⟩
  refine⟨_,rfl,t,_,rfl,SqT.of h1,rfl,_,_,rfl,_,_,rfl,rfl,?_⟩
  refine⟨_,rfl,_,rfl,by lia,by lia,?_⟩
  rw[show((n:Int)).toNat=n by lia]
  refine comp_range (lo:=0) (n:=n) (fun i ys G=>Same H G/\∃ as:List Addr,ys=as.map V.ref/\as.length=i/\as.Nodup/\∀ a∈as,H a=none/\G a=some (.lst [])) (by rw[sizeLine_eq];lia) ⟨Same.refl _,[],rfl,rfl,List.nodup_nil,fun _ h=>nomatch h⟩ ?_ ?_
  ·rintro i ys G hi ⟨sm,as,rfl,al,nd,ha⟩
   refine⟨trivial,tTru_if ⟨(by show 0<=sizeLine;decide),fun l hl=>⟨sm.trans (Same.new hl),as++[l],by rw[List.map_append];rfl,by rw[List.length_append,al];rfl,?_,fun a m=>?_⟩⟩⟩
   ·rw[List.nodup_append]
    refine⟨nd,by simp,fun x hx y hy z=>?_⟩
    rw[List.mem_singleton.mp hy]at z
    have:=(ha x hx).2
    rw[z,hl]at this
    cases this
   ·rcases List.mem_append.mp m with m | m
    ·exact⟨(ha a m).1,(Same.new hl) _ _ (ha a m).2⟩
    ·rw[List.mem_singleton.mp m]
     exact⟨sm.free hl,upd_same⟩
  ·rintro ys G yl ⟨sm,as,rfl,al,nd,ha⟩ D hD
   have sD:=Same.new (o:=.lst (as.map V.ref)) hD
   have hD0:H D=none:=sm.free hD
   have smD:=sm.trans sD
   refine⟨_,rfl,ts,rfl,⟨_,SqT.of (smD _ _ h2)⟩,?_⟩
   refine for_tup (K:=K) (a:=ts) (xs:=bs.map V.ref) (fun i σ G2=>∃ v4 v5 v6,σ=[some (.ref t),some (.int n),some (.ref ts),some (.ref D),v4,v5,v6]/\Same H G2/\G2 D=some (.lst (as.map V.ref))/\BesAt G2 as (ties.take i)) ⟨none,none,none,rfl,smD,upd_same,fun i h=>⟨[],sD _ _ (ha _ (List.getElem_mem h)).2,.nil⟩⟩ (fun i σ G2 _ z=>by obtain⟨v4,v5,v6,_,s2,_⟩:=z;exact SqT.of (s2 _ _ h2)) ?_ ?_
   ·rintro i x σ G2 hx ⟨v4,v5,v6,rfl,s2,gD,B⟩
    obtain⟨il,e⟩:=List.getElem?_eq_some_iff.mp hx
    rw[List.length_map]at il
    rw[List.getElem_map]at e
    subst e
    have it:i<ties.length:=by lia
    have hx:=s2 _ _ (Paired.at h3 i il it)
    obtain⟨o1,o2,o3,o4⟩:=ok _ (List.getElem_mem it)
    generalize ex:ties[i]=x at *
    obtain⟨a,b,c⟩:=x
    have o1:0<=a:=o1
    have o2:a<b:=o2
    have o3:b <(n:Int):=o3
    obtain⟨a,rfl⟩:∃ a':Nat,a=(a':Int):=⟨a.toNat,by lia⟩
    obtain⟨b,rfl⟩:∃ b':Nat,b=(b':Int):=⟨b.toNat,by lia⟩
    have aL:a<as.length:=by lia
    have bL:b<as.length:=by lia
    refine⟨bs[i],_,rfl,SqT.of hx,rfl,_,_,rfl,_,_,rfl,_,_,rfl,rfl,?_⟩
    obtain⟨ca,ea,pa⟩:=B a aL
    refine⟨_,rfl,_,rfl,D,_,_,_,rfl,rfl,SqL.of gD,atI_nat (v:=V.ref as[a]) (by rw[List.getElem?_map,List.getElem?_eq_getElem aL];rfl),.inl ⟨rfl,_,SqL.of ea⟩,_,rfl,_,rfl,(by show 2<=sizeLine;decide),fun tp htp=>?_⟩
    have sT:=Same.new (o:=.tup [.int (b:Int),.int c]) htp
    have lca:(ca.map V.ref).length<sizeLine:=by
     have l1:=pa.length
     have l2:=beside_len (ties.take i) a
     rw[List.length_take]at l2
     rw[List.length_map,sizeLine_eq]
     lia
    refine⟨as[a],_,_,rfl,rfl,sT _ _ ea,lca,?_⟩
    have B1:=BesAt.put (g:=fun i'=>besideOf (ties.take i) i') (y:=((b:Int),c)) nd aL (B.same sT) (sT _ _ ea) upd_same
    have na:∀ (u:Addr) (o:HO),H u=some o->u≠as[a]:=fun u o e z=>by rw[z,(ha _ (List.getElem_mem aL)).1]at e;cases e
    have nb':∀ (u:Addr) (o:HO),H u=some o->u≠as[b]:=fun u o e z=>by rw[z,(ha _ (List.getElem_mem bL)).1]at e;cases e
    have nD:∀ (j:Nat) (h:j<as.length),D≠as[j]:=fun j h z=>by
     have:=(ha _ (List.getElem_mem h)).2
     rw[<- z,hD]at this
     cases this
    have gD1:(upd (upd G2 tp (.tup [.int (b:Int),.int c])) as[a] (.lst (ca.map V.ref++[.ref tp]))) D=some (.lst (as.map V.ref)):=by rw[upd_ne (nD a aL)];exact sT _ _ gD
    have s3:Same H (upd (upd G2 tp (.tup [.int (b:Int),.int c])) as[a] (.lst (ca.map V.ref++[.ref tp]))):=fun u o e=>by rw[upd_ne (na u o e)];exact sT _ _ (s2 _ _ e)
    generalize (upd (upd G2 tp (.tup [.int (b:Int),.int c])) as[a] (.lst (ca.map V.ref++[.ref tp])))=G3 at B1 gD1 s3
    obtain⟨cb,eb,pb⟩:=B1 b bL
    refine⟨_,rfl,_,rfl,D,_,_,_,rfl,rfl,SqL.of gD1,atI_nat (v:=V.ref as[b]) (by rw[List.getElem?_map,List.getElem?_eq_getElem bL];rfl),.inl ⟨rfl,_,SqL.of eb⟩,_,rfl,_,rfl,(by show 2<=sizeLine;decide),fun tp2 htp2=>?_⟩
    have sT2:=Same.new (o:=.tup [.int (a:Int),.int c]) htp2
    have lcb:(cb.map V.ref).length<sizeLine:=by
     have l1:=pb.length
     rw[List.length_append]at l1
     have l2:=beside_len (ties.take i) b
     rw[List.length_take]at l2
     have l3:(if(b:Int)=(a:Int)then [((b:Int),c)]else []).length<=1:=by split <;> simp
     rw[List.length_map,sizeLine_eq]
     lia
    refine⟨as[b],_,_,rfl,rfl,sT2 _ _ eb,lcb,?_⟩
    have B1':∀ (i':Nat) (h:i'<as.length),∃ cs:List Addr,(upd G3 tp2 (.tup [.int (a:Int),.int c])) as[i']=some (.lst (cs.map V.ref))/\Paired (fun c' (x:Int×Int)=>(upd G3 tp2 (.tup [.int (a:Int),.int c])) c'=some (.tup [.int x.1,.int x.2])) cs ((fun i'':Int=>besideOf (ties.take i) i''++if i''=(a:Int)then [((b:Int),c)]else []) i'):=fun i' h=>by
     obtain⟨cs,e,p⟩:=B1 i' h
     exact⟨cs,sT2 _ _ e,Paired.mapP p fun c x z=>sT2 _ _ z⟩
    have B2:=BesAt.put (g:=fun i'':Int=>besideOf (ties.take i) i''++if i''=(a:Int)then [((b:Int),c)]else []) (y:=((a:Int),c)) nd bL B1' (sT2 _ _ eb) upd_same
    refine⟨_,_,_,rfl,fun u o e=>by rw[upd_ne (nb' u o e)];exact sT2 _ _ (s3 _ _ e),by rw[upd_ne (nD b bL)];exact sT2 _ _ gD1,fun i' h'=>?_⟩
    obtain⟨cs,e,p⟩:=B2 i' h'
    refine⟨cs,e,?_⟩
    have eq:besideOf (ties.take (i+1)) i'=(besideOf (ties.take i) i'++if(i':Int)=(a:Int)then [((b:Int),c)]else [])++if(i':Int)=(b:Int)then [((a:Int),c)]else []:=by
     rw[List.take_succ_eq_append_getElem it,besideOf_snoc,ex,List.append_assoc]
     congr 1
     show(if(a:Int)=(i':Int)then _ else if(b:Int)=(i':Int)then _ else _)=_
     by_cases e1:(i':Int)=(a:Int)
     ·rw[if_pos e1,if_pos e1.symm,if_neg (by lia)]
      rfl
     ·rw[if_neg e1,if_neg (fun z=>e1 z.symm)]
      by_cases e2:(i':Int)=(b:Int)
      ·rw[if_pos e2,if_pos e2.symm]
       rfl
      ·rw[if_neg e2,if_neg (fun z=>e2 z.symm)]
       rfl
    rw[eq]
    exact p
   ·rintro σ G2 ⟨v4,v5,v6,rfl,s2,gD,B⟩
    rw[List.length_map,h3l,List.take_length]at B
    exact⟨_,rfl,q D as G2 gD al B s2⟩
end
open PySem L2 PyProof.Rows
noncomputable def spSame(n:Nat):Sp:=fun vs H Q _=>∃ (f u:V) (d:Dt),vs=[f,u]/\Dat H n f d/\Dat H n u d/\∀ H',Same H H'->Q (.bl true) H'
section
variable{P:Program}{w:World}{K:PySem.W.Frag}{mg:Str->Option Value}{base:Heap}
theorem scSame:FnScope ["_law_found","_law_due"] ["_law_found","_law_due"] (defScope sSame):=⟨rfl,rfl,rfl,by decide +kernel,rfl,by decide +kernel,by decide +kernel⟩
theorem csSame:CompScope ["_law_one","_law_other"] [none,none] ["_law_found","_law_due"] (defScope sSame) (scO [(".0",.local),("_law_one",.local),("_law_other",.local),("_law_same",.globalImplicit)]):=⟨rfl,by decide +kernel,by decide +kernel,by decide +kernel,rfl,capB_ok (by decide +kernel)⟩
theorem ndSame:(["_law_one","_law_other"]:List Str).Nodup:=by decide +kernel
theorem same_flat{f:Addr}{cdv:Value}{A:Around}{outer:List Env}{s:Shared}{H:Hp}{Q:VK}{E:XK}(T:Txt mg){x:V}{d:Dt}(hx:Dat H 0 x d)(q:∀ H',Same H H'->Q (.bl true) H') :
  ∃ t,PSs (cxOf CX0 P w K mg base ["_law_found","_law_due"] "_law_same" (defScope sSame) f cdv A outer s H E).nox (defBody sSame) t/\t { nx:=fun _ H'=>Q .non H',rt:=Q } (start ["_law_found","_law_due"] [x,x]) H:=by
 cases d with
 |int i =>
  have ex:x = .int i:=hx
  subst ex
  refine⟨_,pss_cons (ps_if (pt_val (pe_callB call_isinst2 (by rfl) T.isinst boot_isinstance (@pa_nam _ _ _ _ _ _ (pv 1) (@pa_tup _ _ _ _ _ _ _ (pe_tup (@pa_nam _ _ _ _ _ _ (pe_bltn (v:=.ty "list") (by rfl) T.list boot_list rfl) (@pa_nam _ _ _ _ _ _ (pe_bltn (v:=.ty "tuple") (by rfl) T.tuple boot_tuple rfl) pa_nil))) pa_nil)))) pss_never pss_nil)
   (pss_cons (ps_if (PW.pt (pw_or (pt_cmpR op_isN (pv 1) pe_non (nomark _)) (pw_or1 (pt_val (pe_callB call_isinst (by rfl) T.isinst boot_isinstance (@pa_nam _ _ _ _ _ _ (pv 1) (@pa_nam _ _ _ _ _ _ (pe_bltn (v:=.ty "str") (by rfl) T.str boot_str rfl) pa_nil))))))) pss_never pss_nil)
   (pss_cons (ps_if (pt_val (pe_callB call_isinst (by rfl) T.isinst boot_isinstance (@pa_nam _ _ _ _ _ _ (pv 1) (@pa_nam _ _ _ _ _ _ (pe_bltn (v:=.ty "bool") (by rfl) T.bool boot_bool rfl) pa_nil)))) pss_never pss_nil)
   (pss_one (ps_ret (pe_and (pe_callB call_isinst (by rfl) T.isinst boot_isinstance (@pa_nam _ _ _ _ _ _ (pv 0) (@pa_nam _ _ _ _ _ _ (pe_bltn (v:=.ty "int") (by rfl) T.int boot_int rfl) pa_nil)))
    (pe_and (pe_not (pe_callB call_isinst (by rfl) T.isinst boot_isinstance (@pa_nam _ _ _ _ _ _ (pv 0) (@pa_nam _ _ _ _ _ _ (pe_bltn (v:=.ty "bool") (by rfl) T.bool boot_bool rfl) pa_nil))))
    (pe_one (pe_cmpR op_eq (pv 0) (pv 1) (nomark _))))))))),?_⟩
  refine⟨_,rfl,(by show 2<=sizeLine;decide),fun tp htp=>⟨_,_,tp,false,rfl,TyF.int i,upd_same,rfl,_,rfl,iteF ?_⟩⟩
  refine⟨_,rfl,rfl,_,rfl,?_⟩
  refine ite2 (fun h=>absurd (of_decide_eq_true h) (by intro z;cases z)) (fun _=>?_)
  refine⟨_,rfl,_,_,"str",false,rfl,TyOf.int i,rfl,_,rfl,iteF ?_⟩
  refine⟨_,rfl,_,_,"bool",false,rfl,TyOf.int i,rfl,_,rfl,iteF ?_⟩
  refine⟨_,rfl,_,_,"int",true,rfl,TyOf.int i,rfl,_,rfl,iteT ?_⟩
  refine⟨_,rfl,_,_,"bool",false,rfl,TyOf.int i,rfl,_,rfl,_,rfl,iteT ?_⟩
  refine⟨_,rfl,_,rfl,rfl,?_⟩
  rw[decide_eq_true rfl]
  exact q _ (Same.new htp)
 |bl i =>
  have ex:x = .bl i:=hx
  subst ex
  refine⟨_,pss_cons (ps_if (pt_val (pe_callB call_isinst2 (by rfl) T.isinst boot_isinstance (@pa_nam _ _ _ _ _ _ (pv 1) (@pa_tup _ _ _ _ _ _ _ (pe_tup (@pa_nam _ _ _ _ _ _ (pe_bltn (v:=.ty "list") (by rfl) T.list boot_list rfl) (@pa_nam _ _ _ _ _ _ (pe_bltn (v:=.ty "tuple") (by rfl) T.tuple boot_tuple rfl) pa_nil))) pa_nil)))) pss_never pss_nil)
   (pss_cons (ps_if (PW.pt (pw_or (pt_cmpR op_isN (pv 1) pe_non (nomark _)) (pw_or1 (pt_val (pe_callB call_isinst (by rfl) T.isinst boot_isinstance (@pa_nam _ _ _ _ _ _ (pv 1) (@pa_nam _ _ _ _ _ _ (pe_bltn (v:=.ty "str") (by rfl) T.str boot_str rfl) pa_nil))))))) pss_never pss_nil)
   (pss_cons (ps_if (pt_val (pe_callB call_isinst (by rfl) T.isinst boot_isinstance (@pa_nam _ _ _ _ _ _ (pv 1) (@pa_nam _ _ _ _ _ _ (pe_bltn (v:=.ty "bool") (by rfl) T.bool boot_bool rfl) pa_nil))))
    (pss_one (ps_ret (pe_and (pe_callB call_isinst (by rfl) T.isinst boot_isinstance (@pa_nam _ _ _ _ _ _ (pv 0) (@pa_nam _ _ _ _ _ _ (pe_bltn (v:=.ty "bool") (by rfl) T.bool boot_bool rfl) pa_nil))) (pe_one (pe_cmpR op_eq (pv 0) (pv 1) (nomark _)))))) pss_nil)
   (pss_one ps_never))),?_⟩
  refine⟨_,rfl,(by show 2<=sizeLine;decide),fun tp htp=>⟨_,_,tp,false,rfl,TyF.bl i,upd_same,rfl,_,rfl,iteF ?_⟩⟩
  refine⟨_,rfl,rfl,_,rfl,?_⟩
  refine ite2 (fun h=>absurd (of_decide_eq_true h) (by intro z;cases z)) (fun _=>?_)
  refine⟨_,rfl,_,_,"str",false,rfl,TyOf.bl i,rfl,_,rfl,iteF ?_⟩
  refine⟨_,rfl,_,_,"bool",true,rfl,TyOf.bl i,rfl,_,rfl,iteT ?_⟩
  refine⟨_,rfl,_,_,"bool",true,rfl,TyOf.bl i,rfl,_,rfl,iteT ?_⟩
  refine⟨_,rfl,_,rfl,rfl,?_⟩
  rw[decide_eq_true rfl]
  exact q _ (Same.new htp)
 |non =>
  have ex:x = .non:=hx
  subst ex
  refine⟨_,pss_cons (ps_if (pt_val (pe_callB call_isinst2 (by rfl) T.isinst boot_isinstance (@pa_nam _ _ _ _ _ _ (pv 1) (@pa_tup _ _ _ _ _ _ _ (pe_tup (@pa_nam _ _ _ _ _ _ (pe_bltn (v:=.ty "list") (by rfl) T.list boot_list rfl) (@pa_nam _ _ _ _ _ _ (pe_bltn (v:=.ty "tuple") (by rfl) T.tuple boot_tuple rfl) pa_nil))) pa_nil)))) pss_never pss_nil)
   (pss_cons (ps_if (PW.pt (pw_or (pt_cmpR op_isN (pv 1) pe_non (nomark _)) (pw_or1 (pt_val (pe_callB call_isinst (by rfl) T.isinst boot_isinstance (@pa_nam _ _ _ _ _ _ (pv 1) (@pa_nam _ _ _ _ _ _ (pe_bltn (v:=.ty "str") (by rfl) T.str boot_str rfl) pa_nil)))))))
    (pss_one (ps_ret (pe_and (pe_cmpR op_eq (pv 0) (pv 1) (nomark _)) (pe_one (pe_cmpR op_eq (pe_callB call_isinst (by rfl) T.isinst boot_isinstance (@pa_nam _ _ _ _ _ _ (pv 0) (@pa_nam _ _ _ _ _ _ (pe_bltn (v:=.ty "str") (by rfl) T.str boot_str rfl) pa_nil))) (pe_callB call_isinst (by rfl) T.isinst boot_isinstance (@pa_nam _ _ _ _ _ _ (pv 1) (@pa_nam _ _ _ _ _ _ (pe_bltn (v:=.ty "str") (by rfl) T.str boot_str rfl) pa_nil))) (nomark _)))))) pss_nil)
   (pss_cons ps_never (pss_one ps_never))),?_⟩
  refine⟨_,rfl,(by show 2<=sizeLine;decide),fun tp htp=>⟨_,_,tp,false,rfl,TyF.non,upd_same,rfl,_,rfl,iteF ?_⟩⟩
  refine⟨_,rfl,rfl,_,rfl,?_⟩
  refine ite2 (fun _=>?_) (fun h=>absurd (decide_eq_true rfl) h)
  refine iteT ?_
  refine⟨_,rfl,_,rfl,rfl,_,rfl,?_⟩
  refine ite2 (fun _=>?_) (fun h=>absurd (decide_eq_true rfl) h)
  refine⟨_,rfl,_,_,"str",false,rfl,TyOf.non,rfl,_,rfl,_,_,"str",false,rfl,TyOf.non,rfl,rfl,?_⟩
  rw[decide_eq_true rfl]
  exact q _ (Same.new htp)
 |str i =>
  have ex:x = .str i:=hx
  subst ex
  refine⟨_,pss_cons (ps_if (pt_val (pe_callB call_isinst2 (by rfl) T.isinst boot_isinstance (@pa_nam _ _ _ _ _ _ (pv 1) (@pa_tup _ _ _ _ _ _ _ (pe_tup (@pa_nam _ _ _ _ _ _ (pe_bltn (v:=.ty "list") (by rfl) T.list boot_list rfl) (@pa_nam _ _ _ _ _ _ (pe_bltn (v:=.ty "tuple") (by rfl) T.tuple boot_tuple rfl) pa_nil))) pa_nil)))) pss_never pss_nil)
   (pss_cons (ps_if (PW.pt (pw_or (pt_cmpR op_isN (pv 1) pe_non (nomark _)) (pw_or1 (pt_val (pe_callB call_isinst (by rfl) T.isinst boot_isinstance (@pa_nam _ _ _ _ _ _ (pv 1) (@pa_nam _ _ _ _ _ _ (pe_bltn (v:=.ty "str") (by rfl) T.str boot_str rfl) pa_nil)))))))
    (pss_one (ps_ret (pe_and (pe_cmpR op_eq (pv 0) (pv 1) (nomark _)) (pe_one (pe_cmpR op_eq (pe_callB call_isinst (by rfl) T.isinst boot_isinstance (@pa_nam _ _ _ _ _ _ (pv 0) (@pa_nam _ _ _ _ _ _ (pe_bltn (v:=.ty "str") (by rfl) T.str boot_str rfl) pa_nil))) (pe_callB call_isinst (by rfl) T.isinst boot_isinstance (@pa_nam _ _ _ _ _ _ (pv 1) (@pa_nam _ _ _ _ _ _ (pe_bltn (v:=.ty "str") (by rfl) T.str boot_str rfl) pa_nil))) (nomark _)))))) pss_nil)
   (pss_cons ps_never (pss_one ps_never))),?_⟩
  refine⟨_,rfl,(by show 2<=sizeLine;decide),fun tp htp=>⟨_,_,tp,false,rfl,TyF.str i,upd_same,rfl,_,rfl,iteF ?_⟩⟩
  refine⟨_,rfl,rfl,_,rfl,?_⟩
  refine ite2 (fun h=>absurd (of_decide_eq_true h) (by intro z;cases z)) (fun _=>?_)
  refine⟨_,rfl,_,_,"str",true,rfl,TyOf.str i,rfl,_,rfl,iteT ?_⟩
  refine⟨_,rfl,_,rfl,rfl,_,rfl,?_⟩
  refine ite2 (fun _=>?_) (fun h=>absurd (decide_eq_true rfl) h)
  refine⟨_,rfl,_,_,"str",true,rfl,TyOf.str i,rfl,_,rfl,_,_,"str",true,rfl,TyOf.str i,rfl,rfl,?_⟩
  rw[decide_eq_true rfl]
  exact q _ (Same.new htp)
 |lst ds=>exact(show False from hx).elim
 |tup ds=>exact(show False from hx).elim
end
open PySem L2 PyProof.Rows
theorem rep_snoc(i:Nat):(List.replicate i true).map V.bl++[V.bl true]=(List.replicate (i+1) true).map V.bl:=by rw[List.replicate_succ',List.map_append];rfl
theorem rep_all(i:Nat):(List.replicate i true).all id=true:=by simp
section
variable{P:Program}{w:World}{K:PySem.W.Frag}{mg:Str->Option Value}{base:Heap}
theorem paired_len{H:Hp}{n:Nat}{xs:List V}{ds:List Dt}(h:Paired (Dat H n) xs ds):xs.length=ds.length:=Paired.length h
theorem same_seq{n:Nat}{f:Addr}{fd:FuncData}{cdv:Value}{A:Around}{outer:List Env}{s:Shared}{H:Hp}{Q:VK}{E:XK}(T:Txt mg)(T2:Txt2 mg)(G:CalF P w K mg base (n+1) "_law_same" ["_law_found","_law_due"] (spSame n) f fd)
  (hr:Room (n+1) (A.deeper (envOfC "_law_same" (defScope sSame) s.heap.objs.size f cdv))) (b:Bool) {p1 p2:Addr}{xs ys:List V}{ds:List Dt}{t:Value} (ty1:TyF H (.ref p1) t) (ty2:TyF H (.ref p2) t) (kt:t=if b then .type "tuple" else .type "list")
  (q1:SqB b K H p1 xs) (q2:SqB b K H p2 ys) (l1:xs.length<=sizeLine) (r1:Paired (Dat H n) xs ds) (r2:Paired (Dat H n) ys ds) (q:∀ H',Same H H'->Q (.bl true) H') :
  ∃ t,PSs (cxOf CX0 P w K mg base ["_law_found","_law_due"] "_law_same" (defScope sSame) f cdv A outer s H E).nox (defBody sSame) t/\t { nx:=fun _ H'=>Q .non H',rt:=Q } (start ["_law_found","_law_due"] [.ref p1,.ref p2]) H:=by
 have e1:=paired_len r1
 have e2:=paired_len r2
 refine⟨_,pss_cons (ps_if (pt_val (pe_callB call_isinst2 (by rfl) T.isinst boot_isinstance (@pa_nam _ _ _ _ _ _ (pv 1) (@pa_tup _ _ _ _ _ _ _ (pe_tup (@pa_nam _ _ _ _ _ _ (pe_bltn (v:=.ty "list") (by rfl) T.list boot_list rfl) (@pa_nam _ _ _ _ _ _ (pe_bltn (v:=.ty "tuple") (by rfl) T.tuple boot_tuple rfl) pa_nil))) pa_nil))))
   (pss_cons (ps_if (PW.pt (pw_or (pt_cmpR op_ne (pe_callB call_isinst (by rfl) T.isinst boot_isinstance (@pa_nam _ _ _ _ _ _ (pv 0) (@pa_nam _ _ _ _ _ _ (pe_bltn (v:=.ty "list") (by rfl) T.list boot_list rfl) pa_nil))) (pe_callB call_isinst (by rfl) T.isinst boot_isinstance (@pa_nam _ _ _ _ _ _ (pv 1) (@pa_nam _ _ _ _ _ _ (pe_bltn (v:=.ty "list") (by rfl) T.list boot_list rfl) pa_nil))) (nomark _))
    (pw_or1 (pt_cmpR op_ne (pe_callB call_isinst (by rfl) T.isinst boot_isinstance (@pa_nam _ _ _ _ _ _ (pv 0) (@pa_nam _ _ _ _ _ _ (pe_bltn (v:=.ty "tuple") (by rfl) T.tuple boot_tuple rfl) pa_nil))) (pe_callB call_isinst (by rfl) T.isinst boot_isinstance (@pa_nam _ _ _ _ _ _ (pv 1) (@pa_nam _ _ _ _ _ _ (pe_bltn (v:=.ty "tuple") (by rfl) T.tuple boot_tuple rfl) pa_nil))) (nomark _))))) pss_never pss_nil)
   (pss_one (ps_ret (pe_and (pe_cmpR op_eq (pe_callB call_len_seq (by rfl) T.len PySem.boot_len (@pa_nam _ _ _ _ _ _ (pv 0) pa_nil)) (pe_callB call_len_seq (by rfl) T.len PySem.boot_len (@pa_nam _ _ _ _ _ _ (pv 1) pa_nil)) (nomark _))
    (pe_one (pe_callB (call_all rfl) (by rfl) T2.all boot_all (@pa_comp _ _ _ _ _ _ _ _ (pe_comp rfl csSame (pi_zip b b (by rfl) T2.zip (@pa_nam _ _ _ _ _ _ (pv 0) (@pa_nam _ _ _ _ _ _ (pv 1) pa_nil)))
     (fun C s H fp=>pg_tupK K rfl (n:=2) rfl (pgs_cons (pg_name (i:=0) ndSame rfl (Or.inl rfl)) (pgs_cons (pg_name (i:=1) ndSame rfl (Or.inl rfl)) pgs_nil)) rfl rfl) (fun C s H fp=>pf_nil)
     (fun C s H fp=>pe_call G.ok hr rfl G.mg G.kp G.bd .nil pass0 (@pa_nam _ _ _ _ _ _ (pv 0) (@pa_nam _ _ _ _ _ _ (pv 1) pa_nil)))) pa_nil))))))) pss_nil)
  (pss_cons ps_never (pss_cons ps_never (pss_one ps_never))),?_⟩
 refine⟨_,rfl,(by show 2<=sizeLine;decide),fun tp htp=>?_⟩
 have s0:Same H (upd H tp (.tup [.ty "list",.ty "tuple"])):=Same.new htp
 have up:∀ {x:V}{t:Value},TyF H x t->TyF (upd H tp (.tup [.ty "list",.ty "tuple"])) x t:=fun h=>by
  cases h with
  |non=>exact .non
  |bl x=>exact .bl x
  |int i=>exact .int i
  |str x=>exact .str x
  |lst e=>exact .lst (s0 _ _ e)
  |tup e=>exact .tup (s0 _ _ e)
 have y1:=up ty1
 have y2:=up ty2
 have k1:∃ c,PySem.W.kitOne K t (.type "list")=some c:=by rw[kt];cases b <;> exact⟨_,rfl⟩
 have k2:∃ c,PySem.W.kitOne K t (.type "tuple")=some c:=by rw[kt];cases b <;> exact⟨_,rfl⟩
 have k3:PySem.W.kitAny K t [.type "list",.type "tuple"]=some true:=by rw[kt];cases b <;> rfl
 obtain⟨c1,k1⟩:=k1
 obtain⟨c2,k2⟩:=k2
 refine⟨_,t,tp,true,rfl,y2,upd_same,k3,_,rfl,iteT ?_⟩
 refine⟨_,rfl,_,t,"list",c1,rfl,y1.of,k1,_,rfl,_,t,"list",c1,rfl,y2.of,k1,rfl,_,rfl,?_⟩
 refine iteNS rfl ?_
 refine⟨_,rfl,_,t,"tuple",c2,rfl,y1.of,k2,_,rfl,_,t,"tuple",c2,rfl,y2.of,k2,rfl,_,rfl,?_⟩
 refine iteNS rfl ?_
 have seqOr:∀ {a:Addr}{zs:List V},SqB b K H a zs->SqL K (upd H tp (.tup [.ty "list",.ty "tuple"])) a zs\/SqT K (upd H tp (.tup [.ty "list",.ty "tuple"])) a zs:=fun h=>by
  have h':=s0.seqB h
  cases b
  ·exact .inl h'
  ·exact .inr h'
 refine⟨_,rfl,p1,xs,rfl,seqOr q1,_,rfl,p2,ys,rfl,seqOr q2,rfl,_,rfl,?_⟩
 refine ite2 (fun _=>?_) (fun h=>absurd (decide_eq_true (by rw[e1,e2])) h)
 refine⟨_,rfl,_,rfl,p1,p2,rfl,⟨_,s0.seqB q1⟩,⟨_,s0.seqB q2⟩,?_⟩
 refine comp_zip (K:=K) (b1:=b) (b2:=b) (l1:=p1) (l2:=p2) (xs:=xs) (ys:=ys) (fun i zs G=>Same H G/\zs=(List.replicate i true).map V.bl) (by omega) ⟨s0,rfl⟩ (fun i zs G _ z=>⟨z.1.seqB q1,z.1.seqB q2⟩) ?_ ?_
 ·rintro i x y zs G U hx hy ⟨sm,rfl⟩ hU
  obtain⟨il,ex⟩:=List.getElem?_eq_some_iff.mp hx
  obtain⟨jl,ey⟩:=List.getElem?_eq_some_iff.mp hy
  subst ex ey
  have di:i<ds.length:=by omega
  have sU:=sm.trans (Same.new (o:=.tup [xs[i],ys[i]]) hU)
  refine⟨U,_,rfl,SqT.of upd_same,rfl,_,_,rfl,_,_,rfl,rfl,trivial,tTru_if ⟨_,rfl,_,rfl,xs[i],ys[i],ds[i],rfl,Dat.same sU (Paired.at r1 i il di),Dat.same sU (Paired.at r2 i jl di),fun G2 sm2=>⟨sU.trans sm2,rep_snoc i⟩⟩⟩
 ·rintro zs G _ ⟨sm,rfl⟩ D hD
  refine⟨D,_,rfl,SqL.of upd_same,?_⟩
  rw[rep_all]
  exact q _ (sm.trans (Same.new hD))
theorem ok_same{f:Addr}{fd:FuncData}(F:Fun K "_law_same" "_law_same" sSame f fd)(T:Txt mg)(T2:Txt2 mg)(mf:mg "_law_same" = some (.ref f))(bd:Binds K fd ["_law_found","_law_due"] []):∀ n:Nat,FnOk P w K mg base CX0 (n+1) f fd ["_law_found","_law_due"] (spSame n)
 | 0=>by
  refine F.ok scSame (fun vs H Q E h=>?_) (fun cdv A outer s H vs Q E hr h=>?_)
  ·obtain⟨x,u,d,rfl,_⟩:=h
   rfl
  ·obtain⟨x,u,d,rfl,h1,h2,q⟩:=h
   cases d with
   |lst ds=>exact(show False from h1).elim
   |tup ds=>exact(show False from h1).elim
   |non=>cases(show x = .non from h1);cases(show u = .non from h2);exact same_flat (d:=.non) T rfl q
   |bl i=>cases(show x = .bl i from h1);cases(show u = .bl i from h2);exact same_flat (d:=.bl i) T rfl q
   |int i=>cases(show x = .int i from h1);cases(show u = .int i from h2);exact same_flat (d:=.int i) T rfl q
   |str i=>cases(show x = .str i from h1);cases(show u = .str i from h2);exact same_flat (d:=.str i) T rfl q
 |n+1=>by
  have IH:=ok_same F T T2 mf bd n
  refine F.ok scSame (fun vs H Q E h=>?_) (fun cdv A outer s H vs Q E hr h=>?_)
  ·obtain⟨x,u,d,rfl,_⟩:=h
   rfl
  ·obtain⟨x,u,d,rfl,h1,h2,q⟩:=h
   cases d with
   |lst ds =>
    obtain⟨p1,xs,rfl,l1,a1,r1⟩:=h1
    obtain⟨p2,ys,rfl,_,a2,r2⟩:=h2
    exact same_seq T T2 ⟨IH,mf,F.kp,bd⟩ hr false (.lst a1) (.lst a2) rfl (SqL.of a1) (SqL.of a2) (by rw[sizeLine_eq];omega) r1 r2 q
   |tup ds =>
    obtain⟨p1,xs,rfl,l1,a1,r1⟩:=h1
    obtain⟨p2,ys,rfl,_,a2,r2⟩:=h2
    exact same_seq T T2 ⟨IH,mf,F.kp,bd⟩ hr true (.tup a1) (.tup a2) rfl (SqT.of a1) (SqT.of a2) (by rw[sizeLine_eq];omega) r1 r2 q
   |non=>cases(show x = .non from h1);cases(show u = .non from h2);exact same_flat (d:=.non) T rfl q
   |bl i=>cases(show x = .bl i from h1);cases(show u = .bl i from h2);exact same_flat (d:=.bl i) T rfl q
   |int i=>cases(show x = .int i from h1);cases(show u = .int i from h2);exact same_flat (d:=.int i) T rfl q
   |str i=>cases(show x = .str i from h1);cases(show u = .str i from h2);exact same_flat (d:=.str i) T rfl q
end
open PySem L2 PyProof.Rows
theorem insP{ns:List Int}{k:Nat}{x:Int}:(ns.take k++x :: ns.drop k).Perm (ns++[x]):=by
 have h1:(ns.take k++x :: ns.drop k).Perm (x :: (ns.take k++ns.drop k)):=List.perm_middle
 rw[List.take_append_drop]at h1
 exact h1.trans (List.perm_append_singleton x ns).symm
theorem upto_succ(n:Nat):upto (n+1)=upto n++[(n:Int)]:=by
 unfold upto
 rw[List.range_succ,List.map_append]
 rfl
theorem mem_upto{n:Nat}{x:Int}:x∈upto n↔0<=x/\x<n:=by
 unfold upto
 rw[List.mem_map]
 refine⟨fun⟨i,hi,e⟩=>?_,fun⟨h0,h1⟩=>⟨x.toNat,List.mem_range.mpr (by omega),by omega⟩⟩
 have:=List.mem_range.mp hi
 omega
noncomputable def Hg(ns:List Int)(ties:List Tie):Prop:=∀ (i:Nat) (x:Tie),ties[i]?=some x->∃ (j:Nat) (a b:Int),j<=i/\ns[j]?=some a/\ns[i+1]?=some b/\((x.1=a/\x.2.1=b)\/(x.1=b/\x.2.1=a))
theorem Hg.snoc{ns:List Int}{ties:List Tie}{i j:Nat}{a b c:Int}(h:Hg ns ties)(hl:ties.length=i)(hj:j<=i)(ga:ns[j]?=some a)(gb:ns[i+1]?=some b)(ne:a≠b):Hg ns (ties++[((if b<a then b else a),(if b > a then b else a),c)]):=by
 intro k x e
 by_cases hk:k<ties.length
 ·rw[List.getElem?_append_left hk]at e
  exact h k x e
 ·rw[List.getElem?_append_right (by omega)]at e
  have hk0:k-ties.length=0:=by
   rcases Nat.eq_zero_or_pos (k-ties.length)with z | z
   ·exact z
   ·rw[List.getElem?_eq_none (by rw[List.length_singleton];omega)]at e
    cases e
  rw[hk0]at e
  cases e
  have ki:k=i:=by omega
  refine⟨j,a,b,by omega,ga,by rw[ki];exact gb,?_⟩
  show((if b<a then b else a)=a/\(if b > a then b else a)=b)\/((if b<a then b else a)=b/\(if b > a then b else a)=a)
  by_cases z:b<a
  ·rw[if_pos z,if_neg (by omega)]
   exact .inr ⟨rfl,rfl⟩
  ·rw[if_neg z,if_pos (by omega)]
   exact .inl ⟨rfl,rfl⟩
noncomputable def TreeAs(n:Nat)(ties:List Tie):Prop:=∃ (ns:List Int) (ts:List Tie),ns.Perm (upto n)/\Hg ns ts/\ts.length+1=n/\ties.Perm ts
theorem nd_at{ns:List Int}(nd:ns.Nodup){i j:Nat}{x:Int}(h1:ns[i]?=some x)(h2:ns[j]?=some x):i=j:=by
 obtain⟨a,e1⟩:=List.getElem?_eq_some_iff.mp h1
 obtain⟨b,e2⟩:=List.getElem?_eq_some_iff.mp h2
 exact(List.getElem_inj nd).mp (e1.trans e2.symm)
noncomputable def spTree:Sp:=fun vs H Q _=>∃ (p:Addr) (n N:Nat),vs=[.ref p,.int n]/\BoxAt H p N/\N+1000<2 ^ 40/\1<=n/\n<=30 /\
 ∀ (t:Addr) (ties:List Tie) (H':Hp),WebAt H' t n ties->(∀ x∈ties,TieOk n x)->ties.length+1=n->ties.Pairwise tieLt->TreeAs n ties->BoxAt H' p (N+200)->Kept p H H'->Q (.ref t) H'
noncomputable def tieK(x:Tie):List Int:=[x.1,x.2.1,x.2.2]
noncomputable def untie:List Int->Tie
 |[a,b,c]=>(a,b,c)
 | _=>(0,0,0)
theorem untie_K(x:Tie):untie (tieK x)=x:=rfl
theorem paired_map{α β γ:Type}{F:α->γ->Prop}{f:β->γ}:∀ {l:List α}{m:List β},Paired F l (m.map f)->Paired (fun a x=>F a (f x)) l m
 |[],[],_=>.nil
 |a :: l,x :: m,.cons h t=>.cons h (paired_map t)
 |[],_ :: _,h=>nomatch h
 | _ :: _,[],h=>nomatch h
theorem tups_perm{H:Hp}{bs:List Addr}{ns:List (List Int)}{ties:List Tie}(tb:TupsAt H bs ns)(pm:ns.Perm (ties.map tieK)):∃ ts:List Tie,Paired (fun a x=>H a=some (.tup (tieV x))) bs ts/\ts.Perm ties/\ns=ts.map tieK:=by
 have e:ns=(ns.map untie).map tieK:=by
  have:∀ k∈ns,k=tieK (untie k):=fun k hk=>by
   obtain⟨x,_,e⟩:=List.mem_map.mp (pm.mem_iff.mp hk)
   rw[<- e,untie_K]
  rw[List.map_map]
  exact(List.map_id ns).symm.trans (List.map_congr_left fun k hk=>this k hk)
 refine⟨ns.map untie,?_,?_,e⟩
 ·rw[e]at tb
  exact paired_map (f:=tieK) (F:=fun a k=>H a=some (.tup (List.map V.int k))) tb
 ·have:=pm.map untie
  rw[List.map_map]at this
  have ei:(untie ∘ tieK)=id:=funext untie_K
  rw[ei,List.map_id]at this
  exact this
theorem strict_of{ts:List Tie}(h:(ts.map tieK).Pairwise fun x y=>Srt.lexlt y x=false)(nd:(ts.map fun x=>(x.1,x.2.1)).Nodup):ts.Pairwise tieLt:=by
 rw[List.pairwise_map]at h
 have nd':=List.pairwise_map.mp nd
 refine(h.and nd').imp fun {x y} z=>?_
 obtain⟨z1,z2⟩:=z
 obtain⟨a,b,c⟩:=x
 obtain⟨d,e,f⟩:=y
 have z3:¬(a=d/\b=e):=fun u=>z2 (by rw[u.1,u.2])
 unfold tieLt
 simp only[tieK,Srt.lexlt]at z1 ⊢
 by_cases u:a=d
 ·have v:¬ b=e:=fun v=>z3 ⟨u,v⟩
  simp[u,v,Ne.symm v]at z1 ⊢
  omega
 ·simp[u,Ne.symm u]at z1 ⊢
  omega
theorem hg_nodup{ns:List Int}{ts:List Tie}(nd:ns.Nodup)(h:Hg ns ts):(ts.map fun x=>(x.1,x.2.1)).Nodup:=by
 refine List.pairwise_map.mpr (List.pairwise_iff_getElem.mpr fun i k hi hk ik z=>?_)
 obtain⟨j,a,b,j1,ga,gb,e1⟩:=h i _ (List.getElem?_eq_getElem hi)
 obtain⟨j',a',b',j1',ga',gb',e2⟩:=h k _ (List.getElem?_eq_getElem hk)
 have z1:ts[i].1=ts[k].1:=(Prod.mk.inj z).1
 have z2:ts[i].2.1=ts[k].2.1:=(Prod.mk.inj z).2
 have n1:b'≠a:=fun e=>by
  rw[e]at gb'
  have:=nd_at nd gb' ga
  omega
 have n2:b'≠b:=fun e=>by
  rw[e]at gb'
  have:=nd_at nd gb' gb
  omega
 rcases e1 with e1 | e1 <;> rcases e2 with e2 | e2
 ·exact n2 (by rw[<- e2.2,<- z2,e1.2])
 ·exact n1 (by rw[<- e2.1,<- z1,e1.1])
 ·exact n1 (by rw[<- e2.2,<- z2,e1.2])
 ·exact n2 (by rw[<- e2.1,<- z1,e1.1])
theorem ties_tups{H:Hp}:∀ {as:List Addr}{ties:List Tie},Paired (fun a x=>H a=some (.tup (tieV x))) as ties->TupsAt H as (ties.map tieK)
 | _,_,.nil=>.nil
 | _,_,.cons h t=>.cons h (ties_tups t)
section
variable{P:Program}{w:World}{K:PySem.W.Frag}{mg:Str->Option Value}{base:Heap}
noncomputable abbrev nTre:List Str:=["_law_box_here","_law_many_here","_law_heavy","_law_way","_law_names","_law_place","_law_ties","_law_one","_law_other"]
theorem scTre:FnScope nTre ["_law_box_here","_law_many_here"] (defScope sTree):=⟨rfl,rfl,rfl,by decide +kernel,rfl,by decide +kernel,by decide +kernel⟩
theorem ok_tree{f g g2:Addr}{fd gd d2:FuncData}(F:Fun K "_law_tree" "_law_tree" sTree f fd)(T:Txt mg)(G:TakeF P w K mg base g gd)(G2:WeightF P w K mg base g2 d2):FnOk P w K mg base CX0 3 f fd ["_law_box_here","_law_many_here"] spTree:=by
 refine F.ok scTre (fun vs H Q E h=>?_) (fun cdv A outer s H vs Q E hr h=>?_)
 ·obtain⟨p,n,N,rfl,_⟩:=h
  rfl
 ·obtain⟨p,n,N,rfl,B,hN,n1,n30,q⟩:=h
  have hr1:Room 1 _:=hr.mono (by decide)
  refine⟨_,pss_cons (ps_par rfl scTre.nd (i:=2) (j:=3) rfl rfl (by decide) rfl rfl (@pa_call _ _ _ _ _ _ _ _ (pe_call G.ok hr1 rfl G.mg G.kp G.bd .nil pass0 (@pa_nam _ _ _ _ _ _ (pv 0) (@pa_cst _ _ _ _ _ _ _ pe_int pa_nil))) (@pa_call _ _ _ _ _ _ _ _ (pe_call G.ok hr1 rfl G.mg G.kp G.bd .nil pass0 (@pa_nam _ _ _ _ _ _ (pv 0) (@pa_cst _ _ _ _ _ _ _ pe_int pa_nil))) pa_nil)) rfl)
   (pss_cons (ps_set (i:=4) scTre.nd rfl (Or.inl rfl) (@pe_lst _ _ _ _ (@pa_cst _ _ _ _ _ _ _ pe_int pa_nil)))
   (pss_cons (ps_for PassesOwn.never rfl (pi_range2 rfl T.range (@pa_cst _ _ _ _ _ _ _ pe_int (@pa_nam _ _ _ _ _ _ (pv 1) pa_nil))) (pg_name (i:=5) scTre.nd rfl (Or.inl rfl))
    (pss_one (ps_expr (pe_bm PySem.F.plainAttrs_list PySem.F.slot_list_insert PySem.F.type_list_insert mt_insert (pv 4) (@pa_call _ _ _ _ _ _ _ _ (pe_call G.ok hr1 rfl G.mg G.kp G.bd .nil pass0 (@pa_nam _ _ _ _ _ _ (pv 0) (@pa_bin _ _ _ _ _ _ _ _ (pe_op op_add (pv 5) pe_int) pa_nil))) (@pa_nam _ _ _ _ _ _ (pv 5) pa_nil))))))
   (pss_cons (ps_set (i:=6) scTre.nd rfl (Or.inl rfl) (@pe_lst _ _ _ _ pa_nil))
   (pss_cons (ps_for PassesOwn.never rfl (pi_range2 rfl T.range (@pa_cst _ _ _ _ _ _ _ pe_int (@pa_nam _ _ _ _ _ _ (pv 1) pa_nil))) (pg_name (i:=5) scTre.nd rfl (Or.inl rfl))
    (pss_cons (ps_par rfl scTre.nd (i:=7) (j:=8) rfl rfl (by decide) rfl rfl (@pa_sub _ _ _ _ _ _ _ (@pe_ix _ _ _ _ _ _ _ ix_list (pv 4) (@pe_ix _ _ _ _ _ _ _ ix_list (@pe_lst _ _ _ _ (@pa_bin _ _ _ _ _ _ _ _ (pe_op op_sub (pv 5) pe_int) (@pa_cst _ _ _ _ _ _ _ pe_int (@pa_call _ _ _ _ _ _ _ _ (pe_call G.ok hr1 rfl G.mg G.kp G.bd .nil pass0 (@pa_nam _ _ _ _ _ _ (pv 0) (@pa_nam _ _ _ _ _ _ (pv 5) pa_nil))) pa_nil)))) (pe_callB (call_min2 rfl) (by rfl) T.min boot_min (@pa_nam _ _ _ _ _ _ (pv 3) (@pa_cst _ _ _ _ _ _ _ pe_int pa_nil))) (fun _ _=>rfl)) (fun _ _=>rfl)) (@pa_sub _ _ _ _ _ _ _ (pe_ix ix_list (pv 4) (pv 5) (fun _ _=>rfl)) pa_nil)) rfl)
    (pss_one (ps_expr (pe_bm PySem.F.plainAttrs_list PySem.F.slot_list_append PySem.F.type_list_append mt_append (pv 6) (@pa_tup _ _ _ _ _ _ _ (@pe_tup _ _ _ _ _ (@pa_call _ _ _ _ _ _ _ _ (pe_callB (call_min2 rfl) (by rfl) T.min boot_min (@pa_nam _ _ _ _ _ _ (pv 7) (@pa_nam _ _ _ _ _ _ (pv 8) pa_nil))) (@pa_call _ _ _ _ _ _ _ _ (pe_callB (call_max2 rfl) (by rfl) T.max boot_max (@pa_nam _ _ _ _ _ _ (pv 7) (@pa_nam _ _ _ _ _ _ (pv 8) pa_nil))) (@pa_call _ _ _ _ _ _ _ _ (pe_call G2.ok hr rfl G2.mg G2.kp G2.bd .nil pass0 (@pa_nam _ _ _ _ _ _ (pv 0) (@pa_nam _ _ _ _ _ _ (pv 2) pa_nil))) pa_nil)))) pa_nil))))))
   (pss_one (ps_ret (@pe_tup _ _ _ _ _ (@pa_nam _ _ _ _ _ _ (pv 1) (@pa_call _ _ _ _ _ _ _ _ (pe_callTy call_tuple_of (by rfl) T.tuple boot_tuple (@pa_call _ _ _ _ _ _ _ _ (pe_callB call_sortedT (by rfl) T.sorted boot_sorted (@pa_nam _ _ _ _ _ _ (pv 6) pa_nil)) pa_nil)) pa_nil))))))))),?_⟩
  refine⟨_,rfl,p,_,N,rfl,B,by omega,by decide,by decide,fun z H1 z0 z1 B1 k1=>?_⟩
  refine⟨_,rfl,p,_,_,rfl,B1,by omega,by decide,by decide,fun y H2 y0 y1 B2 k2=>⟨_,_,rfl,?_⟩⟩
  obtain⟨hh,rfl⟩:∃ hh:Nat,z=(hh:Int):=⟨z.toNat,by omega⟩
  have h4:hh<4:=by omega
  have k02:=k1.trans k2
  refine⟨(by show 1<=sizeLine;decide),fun na hna=>?_⟩
  have nap:na≠p:=B2.ne hna
  have na0:H na=none:=k02.free B2 hna
  refine⟨_,rfl,1,(n:Int),rfl,⟨by decide,by decide,by omega,by omega⟩,?_⟩
  refine for_range (lo:=1) (n:=((n:Int)-1).toNat) (fun i σ G=>∃ (ns:List Int) (v5:Option V),σ=[some (.ref p),some (.int n),some (.int hh),some (.int y),some (.ref na),v5,none,none,none]/\BoxAt G p (N+2+i)/\Kept p H G/\G na=some (.lst (ns.map V.int))/\ns.Perm (upto (i+1))) ⟨[0],none,rfl,(B2.new hna).mono (by omega),k02.trans (Kept.new hna),upd_same,List.Perm.refl _⟩ ?_ ?_
  ·rintro i σ G hi ⟨ns,v5,rfl,BG,kG,gn,pm⟩
   have nl:ns.length=i+1:=by rw[pm.length_eq,upto_length]
   refine⟨_,rfl,.inl ⟨rfl,_,SqL.of gn⟩,_,rfl,_,rfl,_,_,rfl,rfl,p,_,_,rfl,BG,by omega,by omega,by omega,fun k G2 k0 k1' B3 k3=>?_⟩
   have gn3:=k3 _ _ nap gn
   refine⟨_,rfl,na,_,k,_,rfl,rfl,gn3,k0,by rw[List.length_map];omega,by rw[List.length_map,sizeLine_eq];omega,?_⟩
   refine⟨ns.take k.toNat++(1+(i:Int)) :: ns.drop k.toNat,_,rfl,(B3.put nap).mono (by omega),(kG.trans k3).put na0,?_,?_⟩
   ·rw[upd_same,List.map_append,List.map_cons,List.map_take,List.map_drop]
   ·refine insP.trans ?_
    rw[upto_succ (i+1)]
    have e:(1+(i:Int))=((i+1:Nat):Int):=by omega
    rw[e]
    exact pm.append_right _
  ·rintro σ G ⟨ns,v5,rfl,BG,kG,gn,pm⟩
   have en:((n:Int)-1).toNat+1=n:=by omega
   rw[en]at pm
   have nl:ns.length=n:=by rw[pm.length_eq,upto_length]
   have nnd:ns.Nodup:=pm.nodup_iff.mpr (upto_nodup n)
   have nin:∀ x∈ns,0<=x/\x<n:=fun x hx=>mem_upto.mp (pm.mem_iff.mp hx)
   refine⟨(by show 0<=sizeLine;decide),fun ti hti=>?_⟩
   have tip:ti≠p:=BG.ne hti
   have ti0:H ti=none:=kG.free BG hti
   have tina:ti≠na:=fun e=>by rw[e,gn]at hti;cases hti
   refine⟨_,rfl,1,(n:Int),rfl,⟨by decide,by decide,by omega,by omega⟩,?_⟩
   refine for_range (lo:=1) (n:=((n:Int)-1).toNat) (fun i σ G=>∃ (as:List Addr) (ties:List Tie) (v5 v7 v8:Option V),σ=[some (.ref p),some (.int n),some (.int hh),some (.int y),some (.ref na),v5,some (.ref ti),v7,v8]/\BoxAt G p (N+40+3 * i)/\Kept p H G/\G na=some (.lst (ns.map V.int))/\G ti=some (.lst (as.map V.ref))/\Paired (fun a x=>G a=some (.tup (tieV x))) as ties/\(∀ x∈ties,TieOk n x)/\ties.length=i/\Hg ns ties)
    ⟨[],[],_,none,none,rfl,(BG.new hti).mono (by omega),kG.trans (Kept.new hti),(Same.new hti) _ _ gn,upd_same,.nil,fun _ h=>(nomatch h),rfl,fun _ _ e=>by simp at e⟩ ?_ ?_
   ·clear BG kG gn hti v5
    rintro i σ G hi ⟨as,ties,v5,v7,v8,rfl,BG,kG,gn,gt,pt,ok,tl,hg⟩
    have al:as.length=i:=by rw[pt.length,tl]
    refine⟨_,rfl,_,rfl,_,_,rfl,rfl,_,rfl,_,rfl,p,_,_,rfl,BG,by omega,by omega,by omega,fun k G2 k0 k1' B3 k3=>⟨(by show 3<=sizeLine;decide),fun l hl=>?_⟩⟩
    have lp:l≠p:=B3.ne hl
    have sl:=Same.new (o:=.lst [V.int (1+(i:Int)-1),V.int 0,V.int k]) hl
    obtain⟨jx,wj,ej,hj,wjn⟩:∃ (jx:Int) (wj:Nat),(if(2:Int)<y then 2 else y)=(wj:Int)/\[V.int (1+(i:Int)-1),V.int 0,V.int k][wj]?=some (V.int jx)/\0<=jx/\jx<1+(i:Int):=by
     by_cases e:y=0
     ·exact⟨1+(i:Int)-1,0,by rw[if_neg (by omega)];omega,rfl,by omega,by omega⟩
     ·by_cases e1:y=1
      ·exact⟨0,1,by rw[if_neg (by omega)];omega,rfl,by omega,by omega⟩
      ·exact⟨k,2,by split <;> omega,rfl,k0,by omega⟩
    obtain⟨jx,rfl⟩:∃ j':Nat,jx=(j':Int):=⟨jx.toNat,by omega⟩
    have gn3:=sl _ _ (k3 _ _ nap gn)
    have jl:jx<ns.length:=by omega
    have il:i+1<ns.length:=by omega
    have gj:atI (ns.map V.int) (jx:Int)=some (V.int ns[jx]):=atI_nat (by rw[List.getElem?_map,List.getElem?_eq_getElem jl];rfl)
    have gi:atI (ns.map V.int) (1+(i:Int))=some (V.int ns[i+1]):=by
     have e:(1+(i:Int))=((i+1:Nat):Int):=by omega
     rw[e]
     exact atI_nat (by rw[List.getElem?_map,List.getElem?_eq_getElem il];rfl)
    have ne:ns[jx]≠ns[i+1]:=fun z=>by
     have:=(List.getElem_inj nnd).mp z
     omega
    obtain⟨a0,a1⟩:=nin _ (List.getElem_mem jl)
    obtain⟨b0,b1⟩:=nin _ (List.getElem_mem il)
    have gj':ns[jx]?=some ns[jx]:=List.getElem?_eq_getElem jl
    have gi':ns[i+1]?=some ns[i+1]:=List.getElem?_eq_getElem il
    generalize ns[jx]=one at gj ne a0 a1 gj'
    generalize ns[i+1]=oth at gi ne b0 b1 gi'
    refine⟨_,rfl,_,_,rfl,l,_,_,_,rfl,rfl,SqL.of upd_same,by rw[ej];exact atI_nat hj,na,_,_,_,rfl,rfl,SqL.of gn3,gj,_,rfl,_,rfl,na,_,_,_,rfl,rfl,SqL.of gn3,gi,_,_,rfl,?_⟩
    have gt3:=sl _ _ (k3 _ _ tip gt)
    have B4:=B3.same sl
    have k04:Kept p H (upd G2 l (.lst [V.int (1+(i:Int)-1),V.int 0,V.int k])):=kG.trans (k3.trans (Kept.new hl))
    have pt3:Paired (fun a x=>(upd G2 l (.lst [V.int (1+(i:Int)-1),V.int 0,V.int k])) a=some (.tup (tieV x))) as ties:=by
     obtain⟨x1,x2,x3,eb,_⟩:=BG
     exact Paired.mapP pt fun a x e=>sl _ _ (k3 _ _ (ne_of e eb (by intro z;cases z)) e)
    generalize (upd G2 l (.lst [V.int (1+(i:Int)-1),V.int 0,V.int k]))=G3 at gn3 gt3 B4 k04 pt3
    refine⟨_,rfl,.inl ⟨rfl,_,SqL.of gt3⟩,_,rfl,_,rfl,_,_,rfl,_,rfl,_,rfl,_,_,rfl,_,rfl,_,rfl,p,hh,_,rfl,h4,B4,by omega,fun c G4 c1 B5 k5=>⟨(by show 3<=sizeLine;decide),fun tp htp=>?_⟩⟩
    have gt5:=(Same.new (o:=.tup [.int (if oth<one then oth else one),.int (if oth > one then oth else one),.int c]) htp) _ _ (k5 _ _ tip gt3)
    refine⟨ti,_,_,rfl,rfl,gt5,by rw[List.length_map,sizeLine_eq];omega,?_⟩
    have st:∀ (a:Addr) (xs:List V),(upd G4 tp (.tup [.int (if oth<one then oth else one),.int (if oth > one then oth else one),.int c])) a=some (.tup xs)->(upd (upd G4 tp (.tup [.int (if oth<one then oth else one),.int (if oth > one then oth else one),.int c])) ti (.lst (as.map V.ref++[V.ref tp]))) a=some (.tup xs):=fun a xs e=>by
     rw[upd_ne (ne_of e gt5 (by intro z;cases z))]
     exact e
    have pt5:Paired (fun a x=>G4 a=some (.tup (tieV x))) as ties:=by
     obtain⟨x1,x2,x3,eb,_⟩:=B4
     exact Paired.mapP pt3 fun a x e=>k5 _ _ (ne_of e eb (by intro z;cases z)) e
    refine⟨as++[tp],ties++[((if oth<one then oth else one),(if oth > one then oth else one),c)],_,_,_,rfl,((B5.new htp).put tip).mono (by omega),(k04.trans (k5.trans (Kept.new htp))).put ti0,?_,by rw[upd_same,List.map_append];rfl,Paired.snoc (Paired.mapP pt5 fun a x e=>st _ _ ((Same.new htp) _ _ e)) (st _ _ upd_same),fun x hx=>?_,by rw[List.length_append,tl];rfl,Hg.snoc hg tl (by omega) gj' gi' ne⟩
    ·rw[upd_ne (Ne.symm tina)]
     exact(Same.new htp) _ _ (k5 _ _ nap gn3)
    ·rcases List.mem_append.mp hx with hx | hx
     ·exact ok x hx
     ·rw[List.mem_singleton.mp hx]
      refine⟨?_,?_,?_,c1⟩
      ·show(0:Int)<=if oth<one then oth else one
       split <;> omega
      ·show(if oth<one then oth else one) <(if oth > one then oth else one)
       split <;> split <;> omega
      ·show(if oth > one then oth else one) <(n:Int)
       split <;> omega
   ·rintro σ G ⟨as,ties,v5,v7,v8,rfl,BG,kG,gn,gt,pt,ok,tl,hg⟩
    have al:=pt.length
    refine⟨_,rfl,_,rfl,ti,as,ties.map tieK,rfl,SqL.of gt,ties_tups pt,fun k hk=>?_,by omega,fun l' bs ns' hl' pm' so' tb=>?_⟩
    ·obtain⟨x,_,rfl⟩:=List.mem_map.mp hk
     exact fun z=>nomatch z
    have sl:=Same.new (o:=.lst (bs.map V.ref)) hl'
    refine⟨l',_,rfl,.inl ⟨SqL.of upd_same,fun ts hts=>⟨(by show 2<=sizeLine;decide),fun t ht=>?_⟩⟩⟩
    have s2:=Same.new (o:=.tup (bs.map V.ref)) hts
    have s3:=Same.new (o:=.tup [.int (n:Int),.ref ts]) ht
    obtain⟨tl2,p2,pm2,e2⟩:=tups_perm tb pm'
    rw[e2]at so'
    have ok2:∀ x∈tl2,TieOk n x:=fun x hx=>ok x (pm2.mem_iff.mp hx)
    have l2:=pm2.length_eq
    have pw2:=strict_of so' ((pm2.map fun x=>(x.1,x.2.1)).nodup_iff.mpr (hg_nodup nnd hg))
    refine q t tl2 _ ⟨⟨ts,bs,upd_same,s3 _ _ upd_same,Paired.mapP p2 fun a x e=>s3 _ _ (s2 _ _ (sl _ _ e))⟩,by omega⟩ ok2 (by omega) pw2 ⟨ns,ties,pm,hg,by omega,pm2⟩ (((BG.same sl).same (s2.trans s3)).mono (by omega)) (kG.trans (fun b o _ e=>s3 _ _ (s2 _ _ (sl _ _ e))))
end
end K40
namespace Srt
open PySem PySem.W PyProof.Rows
open PySem.AutoSeq1 (wpAny_loadPart')
theorem rcLt{prog:Program}{w:World}{A:Around}{E:Value->Shared->Prop}{s:Shared}{a b:Int}{t u:Tok}{Q:Value->Shared->Prop}(h:Q (.bool (decide (a<b))) s):wpAny (model prog w) A (richCompare .Lt (.int a t) (.int b u)) Q E s:=lt_int h
open PySem PySem.W PyProof.Rows
noncomputable def LtAt(A:Around)(s:Shared)(u v:Value)(b:Bool):Prop:=∀ (prog:Program) (w:World) (E:Value->Shared->Prop) (Q:Value->Shared->Prop),Q (.bool b) s->wpAny (model prog w) A (richCompare .Lt u v) Q E s
noncomputable def lxL(e r:Nat->Bool)(tl:Bool):List Nat->Bool
 |[]=>tl
 |j :: js=>if e j=true then lxL e r tl js else r j
theorem tupG_meets(l b:Addr)(its its2:Array Value)(n n2:Nat)(dd dd2:Option Addr)(sl sl2:Array (Option Value))(e r:Nat->Bool) :
  Meets (Builtin.«tuple.__lt__» ⟨[.ref l,.ref b],[]⟩)
   (fun A R s=>s.heap.get? l=some { cls:=.type "tuple",dict:=dd,data:=.seq its n,slots:=sl }/\s.heap.get? b=some { cls:=.type "tuple",dict:=dd2,data:=.seq its2 n2,slots:=sl2 } /\
    (∀ j (h1:j<its.size) (h2:j<its2.size),(∀ i,i<j->e i=true)->SeqAt.EqAt A.in1 s its[j] its2[j] (e j))/\(∀ j (h1:j<its.size) (h2:j<its2.size),(∀ i,i<j->e i=true)->e j=false->LtAt A.in1 s its[j] its2[j] (r j)) /\
    R (.ok (.ret (.bool (lxL e r (decide (its.size<its2.size)) (List.range (min its.size its2.size)))))) s) :=
 .of_wp fun prog w A R s h=>by
  obtain⟨hp,g,d,tk,os⟩:=s
  obtain⟨hl,hb,he,hr,h⟩:=h
  have f2:=AutoSeq1.sub_tuple_tuple
  have hZ:(its.toList.zip its2.toList).length=min its.size its2.size:=by simp
  wp_walk using wpAny_loadPart' hl,wpAny_loadPart' hb,wpAny_forIn_list _ (fun rest q s'=>q.1=none/\s'=⟨hp,g,d,tk,os⟩/\∃ i,i<=min its.size its2.size/\(∀ m,m<i->e m=true)/\rest=(its.toList.zip its2.toList).drop i /\
   R (.ok (.ret (.bool (lxL e r (decide (its.size<its2.size)) ((List.range (min its.size its2.size)).drop i))))) ⟨hp,g,d,tk,os⟩) _
  case turn =>
   rintro⟨y,x⟩ rest q s' ⟨hq,rfl,i,hi,up,hz,hR⟩
   have lt:i <(its.toList.zip its2.toList).length:=by
    rcases Nat.lt_or_ge i (its.toList.zip its2.toList).length with z | z
    ·exact z
    ·rw[List.drop_of_length_le z]at hz;cases hz
   have a1:i<its.size:=by omega
   have a2:i<its2.size:=by omega
   rw[List.drop_eq_getElem_cons lt]at hz
   injection hz with hyx hrest
   have hy:y=its[i]:=by have:=congrArg Prod.fst hyx;simpa using this
   have hx:x=its2[i]:=by have:=congrArg Prod.snd hyx;simpa using this
   subst hy hx
   rw[List.drop_eq_getElem_cons (by rw[List.length_range];omega),List.getElem_range]at hR
   refine wpAny_bind (he i a1 a2 up prog w _ _ ?_)
   cases z:e i with
   |true =>
    have l1:lxL e r (decide (its.size<its2.size)) (i :: (List.range (min its.size its2.size)).drop (i+1))=lxL e r (decide (its.size<its2.size)) ((List.range (min its.size its2.size)).drop (i+1)):=by simp[lxL,z]
    rw[l1]at hR
    wp_walk
    exact⟨rfl,rfl,i+1,by omega,(fun m hm=>by rcases Nat.lt_succ_iff_lt_or_eq.mp hm with y | y;exact up m y;rw[y];exact z),hrest,hR⟩
   |false =>
    have l1:lxL e r (decide (its.size<its2.size)) (i :: (List.range (min its.size its2.size)).drop (i+1))=r i:=by simp[lxL,z]
    rw[l1]at hR
    have rl:=hr i a1 a2 up z prog w
    wp_walk using rl
    exact⟨_,rfl,hR⟩
  case fin =>
   rintro⟨b1,b2⟩ s' ⟨hb',rfl,i,hi,up,hz,hR⟩
   simp only at hb'
   subst hb'
   have ge:min its.size its2.size<=i:=by
    rcases Nat.lt_or_ge i (its.toList.zip its2.toList).length with z | z
    ·rw[List.drop_eq_getElem_cons z]at hz;cases hz
    ·exact hZ▸z
   rw[List.drop_of_length_le (by rw[List.length_range];exact ge)]at hR
   wp_walk
   exact⟨_,rfl,by simpa[Builtin.Tuple.tupleCompareSizes,lxL]using hR⟩
  case h =>
   exact⟨rfl,rfl,0,Nat.zero_le _,(fun m hm=>absurd hm (Nat.not_lt_zero m)),rfl,by simpa using h⟩
theorem LtAt.tups{A:Around}{s:Shared}{p q:Addr}{its its2:Array Value}{e r:Nat->Bool}(hu:A.units<cLine)(x:s.heap.IsTuple p its)(y:s.heap.IsTuple q its2)(he:∀ j (h1:j<its.size) (h2:j<its2.size),(∀ i,i<j->e i=true)->SeqAt.EqAt A.in1 s its[j] its2[j] (e j))
  (hr:∀ j (h1:j<its.size) (h2:j<its2.size),(∀ i,i<j->e i=true)->e j=false->LtAt A.in1 s its[j] its2[j] (r j)):LtAt A s (.ref p) (.ref q) (lxL e r (decide (its.size<its2.size)) (List.range (min its.size its2.size))):=fun prog w E Q h=>by
 obtain⟨⟨cls,dd,data,sl⟩,g1,c1,n,d1⟩:=id x
 obtain⟨⟨cls2,dd2,data2,sl2⟩,g2,c2,n2,d2⟩:=id y
 simp only at c1 d1 c2 d2
 subst c1 d1 c2 d2
 exact richCompare_meets_room (op:=.Lt) ⟨_,g1,rfl⟩ ⟨_,g2,rfl⟩ F.slot_tuple_lt F.entry_tuple_lt (F.args_tuple_lt_2 _ _) (tupG_meets p q its its2 n n2 dd dd2 sl sl2 e r)
  ⟨g1,g2,he,hr,show Value.bool _≠Value.notImplemented/\Q (.bool _) s from⟨(fun x=>nomatch x),h⟩⟩ hu
open PySem PySem.W PyProof.Rows
noncomputable def CmpH(prog:Program)(w:World)(A:Around)(g0:Heap)(n:Nat)(P:Nat->Value->Prop)(bt:Nat->Nat->Bool):Prop :=
 ∀ j u v (s:Shared) (Q:Value->Shared->Prop) (E:Value->Shared->Prop),j+1<n->(∀ b o,g0.get? b=some o->s.heap.get? b=some o)->P (j+1) u->P (argBest bt j) v->Q (.bool (bt (j+1) (argBest bt j))) s->wpAny (model prog w) A (richCompare .Lt u v) Q E s
section
variable{prog:Program}{w:World}{A:Around}{R:Result->Shared->Prop}{I:Addr}{fp wr:List Addr}{n:Nat}{P:Nat->Value->Prop}{St:Nat->Heap->Prop}{g0:Heap}
theorem min_turns(W:Walks prog w A.in1 I fp wr n P St)(bt:Nat->Nat->Bool)(cm:CmpH prog w A.in1 g0 n P bt)(S:Addr)(nf:S∉fp)(nw:∀ b o,g0.get? b=some o->b∉wr/\b≠S) :
  ∀ (k j:Nat) (s:Shared) (x:Value) (c:Nat),n-(j+1)=k->j+1<=n->St (j+1) s.heap->(∀ b o,g0.get? b=some o->s.heap.get? b=some o)->P (argBest bt j) x ->
  s.heap.get? S=some { cls:=.type "list",dict:=none,data:=.seq #[x,x] c,slots:=#[] } ->
  (∀ v g tk,P (argBest bt (n-1)) v->(∀ b o,b∉wr->b≠S->s.heap.get? b=some o->g.get? b=some o)->R (.ok (.ret v)) { s with heap:=g,toks:=tk }) ->
  codeAny (model prog w) A (.builtin "min.loop" ⟨[.ref I,.none,.ref S],[]⟩) R s:=by
 have sw:S∉wr:=fun h=>nf (W.sub _ h)
 have nm:(toString "min"++toString ".loop":String) = "min.loop":=by decide
 intro k
 induction k with
 |zero =>
  intro j s x c hk hj st ex px hS hR
  have e:j+1=n:=by omega
  refine codeAny_builtin F.entry_min_loop ?_;rw[Around.under_plainId F.plain_min_loop _]
  show wpAny _ A.in1 (seqItems? (.ref S) >>= _) _ _ s;refine wpAny_bind (wpAny_seqItems hS rfl ?_)
  show wpAny _ A.in1 (tryCatch (pyNext (.ref I)) _ >>= _) _ _ s;refine wpAny_bind (wpAny_tryCatch (W.done s _ _ (e▸st) fun g tk kp=>?_))
  have hS':=kp S _ sw hS
  show wpAny _ A.in1 (updateSeq S (fun _=>#[]) >>= _) _ _ _;refine wpAny_bind (wpAny_updateSeq hS' rfl (wpAny_bind (wpAny_letGo (wpAny_pure ?_))))
  refine hR x _ tk (by rw[<- e];exact px) fun b o bw bS z=>(Heap.get?_update_other _ _ (Ne.symm bS)).trans (kp b o bw z)
 |succ k ih =>
  intro j s x c hk hj st ex px hS hR
  have lt:j+1<n:=by omega
  refine codeAny_builtin F.entry_min_loop ?_;rw[Around.under_plainId F.plain_min_loop _]
  show wpAny _ A.in1 (seqItems? (.ref S) >>= _) _ _ s;refine wpAny_bind (wpAny_seqItems hS rfl ?_)
  show wpAny _ A.in1 (tryCatch (pyNext (.ref I)) _ >>= _) _ _ s;refine wpAny_bind (wpAny_tryCatch (W.item (j+1) s _ _ lt st fun v g tk pv st' kp=>?_))
  have hS':=kp S _ sw hS
  have ex':∀ b o,g0.get? b=some o->g.get? b=some o:=fun b o z=>kp b o (nw b o z).1 (ex b o z)
  show wpAny _ A.in1 (tryCatch (holding [v,v] (richCompare .Lt v x >>= _)) _ >>= _) _ _ _;refine wpAny_bind (wpAny_tryCatch (wpAny_holding (wpAny_bind (cm j v x _ _ _ lt ex' pv px ?_))))
  refine wpAny_bind (wpAny_holding (wpAny_truthy_bool (wpAny_bind (wpAny_letGo (wpAny_pure ?_)))))
  cases hb:bt (j+1) (argBest bt j)with
  |true =>
   simp only[if_true];refine wpAny_bind (wpAny_updateSeq hS' rfl (wpAny_bind (wpAny_letGo ?_)));rw[nm]
   refine wpAny_pure ⟨plainId_quiet F.plain_min_loop _,ih (j+1) _ v _ (by omega) lt (W.frame _ _ _ st' fun b bf o z=>(Heap.get?_update_other _ _ (fun h:S=b=>nf (by rw[h];exact bf))).trans z) (fun b o z=>(Heap.get?_update_other _ _ (Ne.symm (nw b o z).2)).trans (ex' b o z)) (by simp only[argBest,hb,if_true];exact pv) (Heap.get?_update_self _ hS' rfl) fun v' g' tk' pv' kp'=>?_⟩
   exact hR v' g' tk' pv' fun b o bw bS z=>kp' b o bw bS ((Heap.get?_update_other _ _ (Ne.symm bS)).trans (kp b o bw z))
  |false =>
   simp only[Bool.false_eq_true,if_false];refine wpAny_bind (wpAny_letGo ?_);rw[nm]
   refine wpAny_pure ⟨plainId_quiet F.plain_min_loop _,ih (j+1) _ x c (by omega) lt st' ex' (by simp only[argBest,hb,Bool.false_eq_true,if_false];exact px) hS' fun v' g' tk' pv' kp'=>?_⟩
   exact hR v' g' tk' pv' fun b o bw bS z=>kp' b o bw bS (kp b o bw z)
theorem min_first(W:Walks prog w A.in1 I fp wr n P St)(bt:Nat->Nat->Bool)(cm:CmpH prog w A.in1 g0 n P bt)(S:Addr)(nf:S∉fp)(nw:∀ b o,g0.get? b=some o->b∉wr/\b≠S)(hn:0<n){s:Shared}{c:Nat}(st:St 0 s.heap)(ex:∀ b o,g0.get? b=some o->s.heap.get? b=some o)
  (hS:s.heap.get? S=some { cls:=.type "list",dict:=none,data:=.seq #[] c,slots:=#[] })
  (hR:∀ v g tk,P (argBest bt (n-1)) v->(∀ b o,b∉wr->b≠S->s.heap.get? b=some o->g.get? b=some o)->R (.ok (.ret v)) { s with heap:=g,toks:=tk }) :
  codeAny (model prog w) A (.builtin "min.loop" ⟨[.ref I,.none,.ref S],[]⟩) R s:=by
 have sw:S∉wr:=fun h=>nf (W.sub _ h)
 have nm:(toString "min"++toString ".loop":String) = "min.loop":=by decide
 refine codeAny_builtin F.entry_min_loop ?_;rw[Around.under_plainId F.plain_min_loop _]
 show wpAny _ A.in1 (seqItems? (.ref S) >>= _) _ _ s;refine wpAny_bind (wpAny_seqItems hS rfl ?_)
 show wpAny _ A.in1 (tryCatch (pyNext (.ref I)) _ >>= _) _ _ s;refine wpAny_bind (wpAny_tryCatch (W.item 0 s _ _ hn st fun v g tk pv st' kp=>?_))
 have hS':=kp S _ sw hS
 show wpAny _ A.in1 (updateSeq S (fun _=>#[v,v]) >>= _) _ _ _;refine wpAny_bind (wpAny_updateSeq hS' rfl ?_);rw[nm]
 refine wpAny_pure ⟨plainId_quiet F.plain_min_loop _,min_turns W bt cm S nf nw _ 0 _ v _ rfl hn (W.frame _ _ _ st' fun b bf o z=>(Heap.get?_update_other _ _ (fun h:S=b=>nf (by rw[h];exact bf))).trans z) (fun b o z=>(Heap.get?_update_other _ _ (Ne.symm (nw b o z).2)).trans (kp b o (nw b o z).1 (ex b o z))) pv (Heap.get?_update_self _ hS' rfl) fun v' g' tk' pv' kp'=>?_⟩
 exact hR v' g' tk' pv' fun b o bw bS z=>kp' b o bw bS ((Heap.get?_update_other _ _ (Ne.symm bS)).trans (kp b o bw z))
end
end Srt
namespace L2
open PySem PySem.W PyProof.Rows Srt
open PySem PySem.W PyProof.Rows Srt
theorem call_isinstC{X:Cx}(K:PySem.W.Frag)(e:X.K=K):CallR X (.builtin "isinstance") (fun xs H Q=>∃ x t c b,xs=[x,V.ty c]/\TyOf K H x t/\PySem.W.kitOne K t (.type c)=some b/\Q (.bl b) H):=e▸call_isinst
open PySem PySem.W PyProof.Rows Srt
noncomputable def oI:Option Int->V
 |some i=>.int i
 |none=>.non
noncomputable def lexO:List (Option Int)->List (Option Int)->Bool
 |a :: r,b :: s=>if a=b then lexO r s else match a,b with
  |some x,some y=>decide (x<y)
  | _,_=>false
 | _,_=>false
noncomputable def LikeO(xs ys:List (Option Int)):Prop:=xs.map Option.isSome=ys.map Option.isSome
theorem lexO_lx(tl:Bool):∀ (xs ys:List (Option Int)) (k:Nat) (e r:Nat->Bool),LikeO xs ys->(∀ j,j<xs.length->e (k+j)=decide (xs[j]?=ys[j]?))->(∀ j x y,xs[j]?=some (some x)->ys[j]?=some (some y)->r (k+j)=decide (x<y))->(tl=false) ->
  lxL e r tl ((List.range xs.length).map (k + ·))=lexO xs ys
 |[],[],k,e,r,_,_,_,t=>by
  show tl=false
  exact t
 |[],b :: s,_,_,_,l,_,_,_=>by cases l
 |a :: xs,[],_,_,_,l,_,_,_=>by cases l
 |a :: xs,b :: ys,k,e,r,l,he,hr,t=>by
  injection l with l1 l2
  have ih:=lexO_lx tl xs ys (k+1) e r l2 (fun j hj=>by
   have:=he (j+1) (by rw[List.length_cons];omega)
   rw[show k+1+j=k+(j+1) by omega,this];rfl) (fun j x y hx hy=>by
   rw[show k+1+j=k+(j+1) by omega]
   exact hr (j+1) x y hx hy) t
  have el:(List.range (a :: xs).length).map (k + ·)=k :: (List.range xs.length).map (k+1 + ·):=by
   rw[List.length_cons,List.range_succ_eq_map,List.map_cons,List.map_map]
   congr 1
   refine List.map_congr_left fun j _=>?_
   show k+(j+1)=k+1+j
   omega
  rw[el]
  have e0:=he 0 (by simp)
  have e0:e k=decide (a=b):=by
   rw[show k=k+0 from rfl,e0]
   simp
  unfold lxL lexO
  by_cases ab:a=b
  ·rw[if_pos ab,e0,decide_eq_true ab,if_pos rfl,ih]
  ·rw[if_neg ab,e0,decide_eq_false ab,if_neg Bool.false_ne_true]
   cases a with
   |none =>
    cases b with
    |none=>exact absurd rfl ab
    |some y=>cases l1
   |some x =>
    cases b with
    |none=>cases l1
    |some y=>exact hr 0 x y rfl rfl
theorem eqAt_opt{A:Around}{s:Shared}{a b:Option Int}{u v:Value}(h:a.isSome=b.isSome)(r:RelV (oI a) u)(r':RelV (oI b) v):SeqAt.EqAt A s u v (decide (a=b)):=by
 cases a with
 |none =>
  cases b with
  |none =>
   cases r
   cases r'
   exact SeqAt.EqAt.same _
  |some y=>cases h
 |some x =>
  cases b with
  |none=>cases h
  |some y =>
   obtain⟨t,rfl⟩:=r
   obtain⟨t',rfl⟩:=r'
   have:=SeqAt.EqAt.int_int (A:=A) (s:=s) x t y t'
   have e:(x == y)=decide (some x=some y):=by
    rw[Bool.eq_iff_iff,beq_iff_eq,decide_eq_true_eq]
    exact⟨fun z=>by rw[z],fun z=>by injection z⟩
   rw[e]at this
   exact this
theorem ltAt_opt{A:Around}{s:Shared}{x y:Int}{u v:Value}(r:RelV (oI (some x)) u)(r':RelV (oI (some y)) v):LtAt A s u v (decide (x<y)):=fun prog w E Q h=>by
 obtain⟨t,rfl⟩:=r
 obtain⟨t',rfl⟩:=r'
 exact rcLt h
theorem like_len{xs ys:List (Option Int)}(h:LikeO xs ys):xs.length=ys.length:=by
 have:=congrArg List.length h
 rw[List.length_map,List.length_map]at this
 exact this
theorem like_at{xs ys:List (Option Int)}(h:LikeO xs ys){j:Nat}(h1:j<xs.length)(h2:j<ys.length):xs[j].isSome=ys[j].isSome:=by
 have e:(xs.map Option.isSome)[j]?=(ys.map Option.isSome)[j]?:=by rw[h]
 rw[List.getElem?_map,List.getElem?_map,List.getElem?_eq_getElem h1,List.getElem?_eq_getElem h2]at e
 injection e
theorem ltAt_rows{X:Cx}{pins:List (Addr×Obj)}{σ:St}{H:Hp}{s:Shared}(I:Inv X pins σ H s){A:Around}(hu:A.units<cLine){a b:Addr}{xs ys:List (Option Int)}(ha:H a=some (.tup (xs.map oI)))(hb:H b=some (.tup (ys.map oI)))(lk:LikeO xs ys){s':Shared}(ex:∀ c o,s.heap.get? c=some o->s'.heap.get? c=some o) :
  LtAt A s' (.ref a) (.ref b) (lexO xs ys):=by
 obtain⟨its,r,pl,hz⟩:=I.tuple (SqT.of (K:=X.K) ha)
 obtain⟨its',r',pl',hz'⟩:=I.tuple (SqT.of (K:=X.K) hb)
 have l1:=r.length
 have l2:=r'.length
 rw[List.length_map]at l1 l2
 have ll:=like_len lk
 have pl1:s'.heap.IsTuple a its.toArray:=by
  obtain⟨o,e,q⟩:=(show s.heap.IsTuple a its.toArray from pl)
  exact⟨o,ex _ _ e,q⟩
 have pl2:s'.heap.IsTuple b its'.toArray:=by
  obtain⟨o,e,q⟩:=(show s.heap.IsTuple b its'.toArray from pl')
  exact⟨o,ex _ _ e,q⟩
 have at1:∀ j (h:j<its.length) (h':j<xs.length),RelV (oI xs[j]) its[j]:=fun j h h'=>by
  obtain⟨u,hu,ru⟩:=r.get (i:=j) (x:=oI xs[j]) (by rw[List.getElem?_map,List.getElem?_eq_getElem h'];rfl)
  rw[List.getElem?_eq_getElem h]at hu
  injection hu with hu
  rw[hu]
  exact ru
 have at2:∀ j (h:j<its'.length) (h':j<ys.length),RelV (oI ys[j]) its'[j]:=fun j h h'=>by
  obtain⟨u,hu,ru⟩:=r'.get (i:=j) (x:=oI ys[j]) (by rw[List.getElem?_map,List.getElem?_eq_getElem h'];rfl)
  rw[List.getElem?_eq_getElem h]at hu
  injection hu with hu
  rw[hu]
  exact ru
 have t:=LtAt.tups (A:=A) (s:=s') (e:=fun j=>decide (xs[j]?=ys[j]?)) (r:=fun j=>match xs[j]?,ys[j]? with | some (some x),some (some y)=>decide (x<y) | _,_=>false) hu pl1 pl2 (fun j h1 h2 _=>?_) (fun j h1 h2 _ ne=>?_)
 ·have e:=lexO_lx (decide (its.toArray.size<its'.toArray.size)) xs ys 0 (fun j=>decide (xs[j]?=ys[j]?)) (fun j=>match xs[j]?,ys[j]? with | some (some x),some (some y)=>decide (x<y) | _,_=>false) lk (fun j _=>by rw[Nat.zero_add]) (fun j x y hx hy=>by rw[Nat.zero_add];simp only[hx,hy]) (decide_eq_false (by rw[List.size_toArray,List.size_toArray];omega))
  have e2:(List.range (min its.toArray.size its'.toArray.size))=(List.range xs.length).map (0 + ·):=by
   rw[List.size_toArray,List.size_toArray,show min its.length its'.length=xs.length by omega]
   simp
  rw[e2,e]at t
  exact t
 ·have h1:j<its.length:=by simpa using h1
  have h2:j<its'.length:=by simpa using h2
  have:=eqAt_opt (A:=A.in1) (s:=s') (like_at lk (j:=j) (by omega) (by omega)) (at1 j h1 (by omega)) (at2 j h2 (by omega))
  rw[List.getElem?_eq_getElem (by omega),List.getElem?_eq_getElem (by omega)]
  have e:decide (some xs[j]=some ys[j])=decide (xs[j]=ys[j]):=by rw[decide_eq_decide];exact⟨fun z=>by injection z,fun z=>by rw[z]⟩
  rw[e]
  simpa using this
 ·have h1:j<its.length:=by simpa using h1
  have h2:j<its'.length:=by simpa using h2
  have lj:=like_at lk (j:=j) (by omega) (by omega)
  have r1:=at1 j h1 (by omega)
  have r2:=at2 j h2 (by omega)
  have ne:¬ xs[j]=ys[j]:=fun z=>by
   have:=of_decide_eq_false ne
   rw[List.getElem?_eq_getElem (by omega),List.getElem?_eq_getElem (by omega),z]at this
   exact this rfl
  have gx:xs[j]?=some xs[j]:=List.getElem?_eq_getElem (by omega)
  have gy:ys[j]?=some ys[j]:=List.getElem?_eq_getElem (by omega)
  simp only[gx,gy]
  generalize xs[j]=x at *
  generalize ys[j]=y at *
  cases x with
  |none =>
   cases y with
   |none=>exact absurd rfl ne
   |some y=>cases lj
  |some x =>
   cases y with
   |none=>cases lj
   |some y =>
    have:=ltAt_opt (A:=A.in1) (s:=s') r1 r2
    simpa using this
end L2
namespace Nar
open L2
noncomputable abbrev Row:=List (Option Int)
noncomputable abbrev Tie:=Int×Int×Int
noncomputable def giv(r:Row)(p q:Int):Row:=r.set p.toNat (some q)
noncomputable def bes(ties:List Tie)(i:Int):List (Int×Int):=ties.flatMap fun x=>if x.1=i then [(x.2.1,x.2.2)]else if x.2.1=i then [(x.1,x.2.2)]else []
end Nar
namespace Flw
noncomputable abbrev Tie:=Int×Int×Int
section
variable{n:Nat}{ties:List Tie}{am:List Int}{turn:Int}{S:List Int}{tr:Tr}
variable{T:List Int}
inductive Rch(R:Int->Int->Prop)(S:List Int):Int->Prop
 |base {s}:s∈S->Rch R S s
 |step {p v}:Rch R S p->R p v->Rch R S v
end
open Classical
structure Parts(ties:List Tie)(x:Tie)(D:Int->Prop):Prop where
 one:D x.1↔¬ D x.2.1
 rest:∀ y∈ties,y≠x->(D y.1↔D y.2.1)
noncomputable def Joins(x:Tie)(u v:Int):Prop:=(x.1=u/\x.2.1=v)\/(x.2.1=u/\x.1=v)
noncomputable def Beside(ties:List Tie)(u v:Int):Prop:=∃ x∈ties,Joins x u v
structure Tree(n:Nat)(ties:List Tie):Prop where
 cut:∀ x∈ties,∃ D:Int->Prop,Parts ties x D
 all:∀ u v:Int,0<=u->u<n->0<=v->v<n->Rch (Beside ties) [u] v
open Classical
section
variable{n:Nat}{ties:List Tie}{am:List Int}{b:Int}
theorem tree_in(T:Tree n ties){L:List Int}(b0:0<=b)(b1:b<n)(hb:b∈L)(inv:∀ z∈ties,(z.1∈L↔z.2.1∈L)){c:Int}(c0:0<=c)(c1:c<n):c∈L:=by
 have r:=T.all b c b0 b1 c0 c1
 clear c0 c1
 induction r with
 |base h=>rw[List.mem_singleton.mp h];exact hb
 |step _ st ih =>
  obtain⟨z,hz,j⟩:=st
  have i:=inv z hz
  rcases j with⟨f1,f2⟩ |⟨f1,f2⟩ <;> rw[f1,f2]at i
  ·exact i.mp ih
  ·exact i.mpr ih
end
end Flw
namespace Hng
open Nar (bes Tie)
noncomputable abbrev Ht:=Int×Int×Int
noncomputable def toTie(h:Ht):Tie:=if h.1<h.2.1 then(h.1,h.2.1,h.2.2)else(h.2.1,h.1,h.2.2)
structure Hang(n:Nat)(ties:List Tie)(L:List Ht):Prop where
 n1:1<=n
 nd:(0 :: L.map (·.1)).Nodup
 rg:∀ h∈L,0<=h.1/\h.1<n
 up:∀ (i:Nat) (h:i<L.length),L[i].2.1∈0 :: (L.take i).map (·.1)
 tie:ties.Perm (L.map toTie)
 len:L.length+1=n
theorem perm_sub{α:Type}[DecidableEq α]:∀ {l m:List α},l.Nodup->(∀ x∈l,x∈m)->m.length<=l.length->l.Perm m
 |[],m,_,_,h=>by
  have:m=[]:=List.length_eq_zero_iff.mp (Nat.le_zero.mp h)
  rw[this]
 |a :: l,m,nd,sub,h=>by
  rw[List.nodup_cons]at nd
  have ha:=sub a (List.mem_cons_self ..)
  have p:=List.perm_cons_erase ha
  have ih:=perm_sub (l:=l) (m:=m.erase a) nd.2 (fun x hx=>(List.mem_erase_of_ne (fun(e:x=a)=>nd.1 (e▸hx))).mpr (sub x (List.mem_cons_of_mem _ hx))) (by
   rw[List.length_erase_of_mem ha]
   have:=List.length_pos_of_mem ha
   rw[List.length_cons]at h
   omega)
  exact(List.Perm.cons a ih).trans p.symm
theorem fst_inj{L:List Ht}(nd:(L.map (·.1)).Nodup){i j:Nat}(hi:i<L.length)(hj:j<L.length)(e:L[i].1=L[j].1):i=j:=by
 have h1:(L.map (·.1))[i]'(by rw[List.length_map];exact hi)=(L.map (·.1))[j]'(by rw[List.length_map];exact hj):=by rw[List.getElem_map,List.getElem_map];exact e
 exact(List.getElem_inj nd).mp h1
theorem nd_all{n:Nat}{l:List Int}(nd:l.Nodup)(rg:∀ x∈l,0<=x/\x<n)(len:l.length=n){v:Int}(v0:0<=v)(v1:v<n):v∈l:=by
 have h1:l.Perm ((List.range n).map fun(i:Nat)=>(i:Int)):=by
  have sub:∀ x∈l,x∈(List.range n).map fun(i:Nat)=>(i:Int):=fun x hx=>by
   have:=rg x hx
   exact List.mem_map.mpr ⟨x.toNat,List.mem_range.mpr (by omega),by omega⟩
  exact perm_sub nd sub (by rw[List.length_map,List.length_range,len];exact Nat.le_refl _)
 exact h1.mem_iff.mpr (List.mem_map.mpr ⟨v.toNat,List.mem_range.mpr (by omega),by omega⟩)
section
variable{n:Nat}{ties:List Tie}{L:List Ht}
theorem Hang.all(H:Hang n ties L){v:Int}(v0:0<=v)(v1:v<n):v∈0 :: L.map (·.1):=by
 have n1:=H.n1
 refine nd_all H.nd (fun x hx=>?_) (by rw[List.length_cons,List.length_map];exact H.len) v0 v1
 rcases List.mem_cons.mp hx with e | hx
 ·omega
 ·obtain⟨h,hh,rfl⟩:=List.mem_map.mp hx
  exact H.rg h hh
theorem Hang.ne(H:Hang n ties L){h:Ht}(hh:h∈L):h.1≠0/\h.1≠h.2.1/\h.2.1∈0 :: L.map (·.1):=by
 obtain⟨i,hi,rfl⟩:=List.getElem_of_mem hh
 have nd:=H.nd
 rw[List.nodup_cons]at nd
 have c0:L[i].1≠0:=fun z=>nd.1 (z▸List.mem_map.mpr ⟨_,hh,rfl⟩)
 have up:=H.up i hi
 refine⟨c0,fun z=>?_,?_⟩
 ·rcases List.mem_cons.mp up with e | e
  ·exact c0 (z.trans e)
  ·obtain⟨g,hg,eg⟩:=List.mem_map.mp e
   obtain⟨j,hj,rfl⟩:=List.getElem_of_mem hg
   rw[List.length_take]at hj
   rw[List.getElem_take]at eg
   have:=fst_inj nd.2 (i:=j) (j:=i) (by omega) hi (by rw[eg,z])
   omega
 ·rcases List.mem_cons.mp up with e | e
  ·rw[e];exact List.mem_cons_self ..
  ·obtain⟨g,hg,eg⟩:=List.mem_map.mp e
   rw[<- eg]
   exact List.mem_cons_of_mem _ (List.mem_map.mpr ⟨g,List.mem_of_mem_take hg,rfl⟩)
noncomputable def kids(L:List Ht)(v:Int):List (Int×Int):=(L.filter fun h=>decide (h.2.1=v)).map fun h=>(h.1,h.2.2)
noncomputable def ups(L:List Ht)(v:Int):List (Int×Int):=(L.filter fun h=>decide (h.1=v)).map fun h=>(h.2.1,h.2.2)
theorem bes_perm{t t':List Tie}(p:t.Perm t')(v:Int):(bes t v).Perm (bes t' v):=by
 unfold bes
 exact List.Perm.flatMap_right _ p
theorem bes_hang{L:List Ht}(ne:∀ h∈L,h.1≠h.2.1)(v:Int):(bes (L.map toTie) v).Perm (ups L v++kids L v):=by
 induction L with
 |nil=>exact .nil
 |cons h L ih =>
  have ih:=ih fun g hg=>ne g (List.mem_cons_of_mem _ hg)
  have hn:=ne h (List.mem_cons_self ..)
  have e0:bes ((h :: L).map toTie) v=(if(toTie h).1=v then [((toTie h).2.1,(toTie h).2.2)]else if(toTie h).2.1=v then [((toTie h).1,(toTie h).2.2)]else [])++bes (L.map toTie) v:=rfl
  rw[e0]
  have eu:ups (h :: L) v=(if h.1=v then [(h.2.1,h.2.2)]else [])++ups L v:=by
   unfold ups
   rw[List.filter_cons]
   by_cases z:h.1=v
   ·rw[if_pos (decide_eq_true z),if_pos z];rfl
   ·rw[if_neg (fun w=>z (of_decide_eq_true w)),if_neg z];rfl
  have ek:kids (h :: L) v=(if h.2.1=v then [(h.1,h.2.2)]else [])++kids L v:=by
   unfold kids
   rw[List.filter_cons]
   by_cases z:h.2.1=v
   ·rw[if_pos (decide_eq_true z),if_pos z];rfl
   ·rw[if_neg (fun w=>z (of_decide_eq_true w)),if_neg z];rfl
  rw[eu,ek]
  have et:(if(toTie h).1=v then [((toTie h).2.1,(toTie h).2.2)]else if(toTie h).2.1=v then [((toTie h).1,(toTie h).2.2)]else [])=(if h.1=v then [(h.2.1,h.2.2)]else [])++(if h.2.1=v then [(h.1,h.2.2)]else []):=by
   unfold toTie
   by_cases lt:h.1<h.2.1
   ·rw[if_pos lt]
    show(if h.1=v then [(h.2.1,h.2.2)]else if h.2.1=v then [(h.1,h.2.2)]else [])=_
    by_cases z:h.1=v
    ·rw[if_pos z,if_pos z,if_neg (fun w=>hn (by rw[z,w]))];rfl
    ·rw[if_neg z,if_neg z];rfl
   ·rw[if_neg lt]
    show(if h.2.1=v then [(h.1,h.2.2)]else if h.1=v then [(h.2.1,h.2.2)]else [])=_
    by_cases z:h.1=v
    ·have w:¬ h.2.1=v:=fun w=>hn (by rw[z,w])
     rw[if_neg w,if_pos z,if_neg w];rfl
    ·rw[if_neg z];rfl
  rw[et]
  generalize (if h.1=v then [(h.2.1,h.2.2)]else [])=A
  generalize (if h.2.1=v then [(h.1,h.2.2)]else [])=B
  rw[List.append_assoc,List.append_assoc]
  refine List.Perm.append_left A ?_
  refine(List.Perm.append_left B ih).trans ?_
  rw[<- List.append_assoc,<- List.append_assoc]
  exact List.Perm.append_right _ List.perm_append_comm
theorem Hang.bes(H:Hang n ties L)(v:Int):(bes ties v).Perm (ups L v++kids L v):=(bes_perm H.tie v).trans (bes_hang (fun h hh=>(H.ne hh).2.1) v)
theorem Hang.one(H:Hang n ties L){g h:Ht}(hg:g∈L)(hh:h∈L)(e:g.1=h.1):g=h:=by
 have nd:=H.nd
 rw[List.nodup_cons]at nd
 obtain⟨i,hi,rfl⟩:=List.getElem_of_mem hg
 obtain⟨j,hj,rfl⟩:=List.getElem_of_mem hh
 have:=fst_inj nd.2 hi hj e
 subst this
 rfl
theorem Hang.nodup(H:Hang n ties L):L.Nodup:=by
 have nd:=H.nd
 rw[List.nodup_cons]at nd
 exact(List.pairwise_map.mp nd.2).imp fun {a b} ne e=>ne (by rw[e])
theorem toTie_eq{g h:Ht}(e:toTie g=toTie h):g=h\/(g.1=h.2.1/\g.2.1=h.1/\g.2.2=h.2.2):=by
 obtain⟨a,b,c⟩:=g
 obtain⟨a',b',c'⟩:=h
 unfold toTie at e
 show _\/(a=b'/\b=a'/\c=c')
 have e:(if a<b then(a,b,c)else(b,a,c))=(if a'<b' then(a',b',c')else(b',a',c')):=e
 split at e <;> split at e <;> (simp only[Prod.mk.injEq]at e ⊢;omega)
theorem Hang.same{L':List Ht}(H:Hang n ties L)(H':Hang n ties L'):L.Perm L':=by
 have key:∀ (m i:Nat) (hi:i<L.length),i<m->L[i]∈L':=by
  intro m
  induction m with
  |zero=>intro i hi z;omega
  |succ m ih =>
   intro i hi im
   have mt:toTie L[i]∈L'.map toTie:=H'.tie.mem_iff.mp (H.tie.mem_iff.mpr (List.mem_map.mpr ⟨_,List.getElem_mem hi,rfl⟩))
   obtain⟨g,hg,eg⟩:=List.mem_map.mp mt
   rcases toTie_eq eg with e |⟨e1,e2,e3⟩
   ·rw[<- e];exact hg
   ·exfalso
    rcases List.mem_cons.mp (H.up i hi)with z | z
    ·exact(H'.ne hg).1 (e1.trans z)
    ·obtain⟨f,hf,ef⟩:=List.mem_map.mp z
     obtain⟨j,hj,rfl⟩:=List.getElem_of_mem hf
     rw[List.length_take]at hj
     rw[List.getElem_take]at ef
     have jm:L[j]∈L':=ih j (by omega) (by omega)
     have same:=H'.one jm hg (by rw[ef,e1])
     have:L[j].2.1=L[i].1:=by rw[same,e2]
     have up:=H.up j (by omega)
     rw[this]at up
     have nd:=H.nd
     rw[List.nodup_cons]at nd
     rcases List.mem_cons.mp up with y | y
     ·exact(H.ne (List.getElem_mem hi)).1 y
     ·obtain⟨f',hf',ek⟩:=List.mem_map.mp y
      obtain⟨k,hk,rfl⟩:=List.getElem_of_mem hf'
      rw[List.length_take]at hk
      rw[List.getElem_take]at ek
      have:=fst_inj nd.2 (i:=k) (j:=i) (by omega) hi ek
      omega
 have sub:∀ h∈L,h∈L':=fun h hh=>by
  obtain⟨i,hi,rfl⟩:=List.getElem_of_mem hh
  exact key (i+1) i hi (by omega)
 exact perm_sub H.nodup sub (by have:=H.len;have:=H'.len;omega)
theorem kids_perm{L L':List Ht}(p:L.Perm L')(v:Int):(kids L v).Perm (kids L' v):=(p.filter _).map _
end
open Nar (bes Tie)
theorem le_sub{α:Type}[DecidableEq α]:∀ {l m:List α},l.Nodup->(∀ x∈l,x∈m)->l.length<=m.length
 |[],_,_,_=>Nat.zero_le _
 |f :: l,m,nd,h=>by
  rw[List.nodup_cons]at nd
  have hf:=h f (List.mem_cons_self ..)
  have:=le_sub (m:=m.erase f) nd.2 fun g hg=>(List.mem_erase_of_ne (fun(e:g=f)=>nd.1 (by rw[<- e];exact hg))).mpr (h g (List.mem_cons_of_mem _ hg))
  rw[List.length_erase_of_mem hf]at this
  have p:=List.length_pos_of_mem hf
  rw[List.length_cons]
  omega
structure Part(n:Nat)(ties:List Tie)(L:List Ht):Prop where
 nd:(0 :: L.map (·.1)).Nodup
 rg:∀ h∈L,0<=h.1/\h.1<n
 up:∀ (i:Nat) (h:i<L.length),L[i].2.1∈0 :: (L.take i).map (·.1)
 sub:∀ h∈L,toTie h∈ties
 ndt:(L.map toTie).Nodup
section
variable{n:Nat}{ties:List Tie}
theorem Part.put{L:List Ht}{h:Ht}(P:Part n ties L)(h0:0<=h.1)(h1:h.1<n)(new:h.1∉0 :: L.map (·.1))(old:h.2.1∈0 :: L.map (·.1))(ht:toTie h∈ties):Part n ties (L++[h]):=by
 have both:∀ g∈L,g.1∈0 :: L.map (·.1)/\g.2.1∈0 :: L.map (·.1):=fun g hg=>by
  refine⟨List.mem_cons_of_mem _ (List.mem_map.mpr ⟨g,hg,rfl⟩),?_⟩
  obtain⟨i,hi,rfl⟩:=List.getElem_of_mem hg
  rcases List.mem_cons.mp (P.up i hi)with e | e
  ·rw[e];exact List.mem_cons_self ..
  ·obtain⟨f,hf,ef⟩:=List.mem_map.mp e
   rw[<- ef]
   exact List.mem_cons_of_mem _ (List.mem_map.mpr ⟨f,List.mem_of_mem_take hf,rfl⟩)
 refine⟨?_,fun g hg=>?_,fun i hi=>?_,fun g hg=>?_,?_⟩
 ·rw[List.map_append,<- List.cons_append]
  refine List.nodup_append.mpr ⟨P.nd,List.pairwise_singleton _ _,fun a ha b hb e=>?_⟩
  have hb:b=h.1:=by simpa using hb
  exact new (by rw[<- hb,<- e];exact ha)
 ·rcases List.mem_append.mp hg with hg | hg
  ·exact P.rg g hg
  ·rw[List.mem_singleton.mp hg];exact⟨h0,h1⟩
 ·by_cases z:i<L.length
  ·rw[List.getElem_append_left z,List.take_append_of_le_length (by omega)]
   exact P.up i z
  ·have ei:i=L.length:=by rw[List.length_append,List.length_singleton]at hi;omega
   subst ei
   rw[List.getElem_append_right (Nat.le_refl _),List.take_left']
   ·simp only[Nat.sub_self,List.getElem_cons_zero]
    exact old
   ·rfl
 ·rcases List.mem_append.mp hg with hg | hg
  ·exact P.sub g hg
  ·rw[List.mem_singleton.mp hg];exact ht
 ·rw[List.map_append]
  refine List.nodup_append.mpr ⟨P.ndt,List.pairwise_singleton _ _,fun a ha b hb e=>?_⟩
  have hb:b=toTie h:=by simpa using hb
  obtain⟨g,hg,eg⟩:=List.mem_map.mp ha
  have bg:=both g hg
  rw[hb,<- eg]at e
  rcases toTie_eq e with z |⟨z1,z2,_⟩
  ·rw[z]at bg;exact new bg.1
  ·rw[z2]at bg;exact new bg.2
theorem Part.hang{L:List Ht}(P:Part n ties L)(n1:1<=n)(nt:ties.Nodup)(len:ties.length+1=n)(ll:L.length+1=n):Hang n ties L :=
 ⟨n1,P.nd,P.rg,P.up,(perm_sub P.ndt (fun x hx=>by obtain⟨h,hh,rfl⟩:=List.mem_map.mp hx;exact P.sub h hh) (by rw[List.length_map];omega)).symm,ll⟩
theorem leads(T:Flw.Tree n ties){S:List Int}(h0:(0:Int)∈S)(n1:1<=n)(sl:S.length<n):∃ z∈ties,¬(z.1∈S↔z.2.1∈S):=by
 apply Classical.byContradiction
 intro no
 have inv:∀ z∈ties,(z.1∈S↔z.2.1∈S):=fun z hz=>Classical.byContradiction fun y=>no ⟨z,hz,y⟩
 have all:∀ x∈(List.range n).map (fun(i:Nat)=>(i:Int)),x∈S:=fun x hx=>by
  obtain⟨i,hi,rfl⟩:=List.mem_map.mp hx
  have:=List.mem_range.mp hi
  exact Flw.tree_in T (b:=0) (by omega) (by omega) h0 inv (by omega) (by omega)
 have:=le_sub (List.Pairwise.map _ (fun a b ne e=>ne (by omega)) List.nodup_range) all
 rw[List.length_map,List.length_range]at this
 omega
theorem tie_put(ok:∀ x∈ties,0<=x.1/\x.1<x.2.1/\x.2.1<n){L:List Ht}(P:Part n ties L){z:Tie}(hz:z∈ties) :
  (z.1∈0 :: L.map (·.1)->z.2.1∉0 :: L.map (·.1)->Part n ties (L++[(z.2.1,z.1,z.2.2)]))/\(z.1∉0 :: L.map (·.1)->z.2.1∈0 :: L.map (·.1)->Part n ties (L++[(z.1,z.2.1,z.2.2)])):=by
 obtain⟨o1,o2,o3⟩:=ok z hz
 refine⟨fun a b=>P.put (by show 0<=z.2.1;omega) o3 b a ?_,fun a b=>P.put o1 (by show z.1<n;omega) a b ?_⟩
 ·have:toTie (z.2.1,z.1,z.2.2)=z:=by
   unfold toTie
   rw[if_neg (show ¬ z.2.1<z.1 by omega)]
  rw[this];exact hz
 ·have:toTie (z.1,z.2.1,z.2.2)=z:=by
   unfold toTie
   rw[if_pos (show z.1<z.2.1 from o2)]
  rw[this];exact hz
theorem hang_ex(n1:1<=n)(T:Flw.Tree n ties)(ok:∀ x∈ties,0<=x.1/\x.1<x.2.1/\x.2.1<n)(nt:ties.Nodup)(len:ties.length+1=n):∃ L,Hang n ties L:=by
 have key:∀ k,k+1<=n->∃ L,Part n ties L/\L.length=k:=by
  intro k
  induction k with
  |zero=>exact fun _=>⟨[],⟨List.pairwise_singleton _ _,(fun _ h=>nomatch h),(fun _ h=>absurd h (Nat.not_lt_zero _)),(fun _ h=>nomatch h),List.Pairwise.nil⟩,rfl⟩
  |succ k ih =>
   intro hk
   obtain⟨L,P,ll⟩:=ih (by omega)
   obtain⟨z,hz,cr⟩:=leads T (S:=0 :: L.map (·.1)) (List.mem_cons_self ..) n1 (by rw[List.length_cons,List.length_map];omega)
   obtain⟨p1,p2⟩:=tie_put ok P hz
   by_cases a:z.1∈0 :: L.map (·.1)
   ·exact⟨_,p1 a (fun b=>cr ⟨fun _=>b,fun _=>a⟩),by rw[List.length_append,ll];rfl⟩
   ·by_cases b:z.2.1∈0 :: L.map (·.1)
    ·exact⟨_,p2 a b,by rw[List.length_append,ll];rfl⟩
    ·exact absurd ⟨fun h=>absurd h a,fun h=>absurd h b⟩ cr
 obtain⟨L,P,ll⟩:=key (n-1) (by omega)
 exact⟨L,P.hang n1 nt len (by omega)⟩
structure Met(L:List Ht)(D W:List Int):Prop where
 nd:(D++W).Nodup
 zero:(0:Int)∈D++W
 up:∀ (i:Nat) (h:i<D.length),D[i]=0\/∃ g∈L,g.1=D[i]/\g.2.1∈D.take i
 wup:∀ x∈W,x=0\/∃ g∈L,g.1=x/\g.2.1∈D
 down:∀ g∈L,g.2.1∈D->g.1∈D++W
theorem met_start(L:List Ht):Met L [] [0] :=
 ⟨List.pairwise_singleton _ _,List.mem_singleton.mpr rfl,(fun _ h=>absurd h (Nat.not_lt_zero _)),fun x hx=>.inl (by simpa using hx),(fun _ _ h=>nomatch h)⟩
variable{L:List Ht}
theorem met_kids(H:Hang n ties L){D W:List Int}{v:Int}(M:Met L D (W++[v])):((bes ties v).filter fun x=>decide (x.1∉D)).Perm (kids L v):=by
 have p:=(H.bes v).filter fun x=>decide (x.1∉D)
 refine p.trans ?_
 rw[List.filter_append]
 have vD:v∉D:=fun z=>by
  have:=(List.nodup_append.mp M.nd).2.2 v z v (List.mem_append_right _ (List.mem_singleton.mpr rfl))
  exact this rfl
 have e1:(ups L v).filter (fun x=>decide (x.1∉D))=[]:=by
  rw[List.filter_eq_nil_iff]
  intro x hx y
  have y:=of_decide_eq_true y
  obtain⟨g,hg,rfl⟩:=List.mem_map.mp hx
  obtain⟨hg,eg⟩:=List.mem_filter.mp hg
  have eg:=of_decide_eq_true eg
  rcases M.wup v (List.mem_append_right _ (List.mem_singleton.mpr rfl))with z |⟨g',hg',e',u'⟩
  ·exact(H.ne hg).1 (eg.trans z)
  ·rw[H.one hg hg' (by rw[eg,e'])]at y
   exact y u'
 have e2:(kids L v).filter (fun x=>decide (x.1∉D))=kids L v:=by
  rw[List.filter_eq_self]
  intro x hx
  obtain⟨g,hg,rfl⟩:=List.mem_map.mp hx
  obtain⟨hg,eg⟩:=List.mem_filter.mp hg
  have eg:=of_decide_eq_true eg
  refine decide_eq_true fun z=>?_
  obtain⟨i,hi,ei⟩:=List.getElem_of_mem z
  have ei:D[i]=g.1:=ei
  rcases M.up i hi with y |⟨g',hg',e',u'⟩
  ·exact(H.ne hg).1 (by rw[<- ei,y])
  ·rw[H.one hg' hg (by rw[e',ei]),eg]at u'
   exact vD (List.mem_of_mem_take u')
 rw[e1,e2,List.nil_append]
theorem met_step(H:Hang n ties L){D W K:List Int}{v:Int}(M:Met L D (W++[v]))(hK:K.Perm ((kids L v).map (·.1))):Met L (D++[v]) (W++K):=by
 have vD:v∉D:=fun z=>by
  have:=(List.nodup_append.mp M.nd).2.2 v z v (List.mem_append_right _ (List.mem_singleton.mpr rfl))
  exact this rfl
 have mK:∀ x,x∈K↔∃ g∈L,g.1=x/\g.2.1=v:=fun x=>by
  rw[hK.mem_iff,List.mem_map]
  constructor
  ·rintro⟨y,hy,rfl⟩
   obtain⟨g,hg,rfl⟩:=List.mem_map.mp hy
   obtain⟨hg,eg⟩:=List.mem_filter.mp hg
   exact⟨g,hg,rfl,of_decide_eq_true eg⟩
  ·rintro⟨g,hg,rfl,e⟩
   exact⟨(g.1,g.2.2),List.mem_map.mpr ⟨g,List.mem_filter.mpr ⟨hg,decide_eq_true e⟩,rfl⟩,rfl⟩
 have ndL:=H.nd
 rw[List.nodup_cons]at ndL
 have kn:K.Nodup:=by
  refine hK.nodup_iff.mpr ?_
  unfold kids
  rw[List.map_map]
  exact List.Pairwise.sublist (List.Sublist.map _ List.filter_sublist) ndL.2
 have perm:(D++[v]++(W++K)).Perm (D++(W++[v])++K):=by
  rw[List.append_assoc,List.append_assoc,List.append_assoc]
  refine List.Perm.append_left D ?_
  rw[<- List.append_assoc,<- List.append_assoc]
  exact List.Perm.append_right K List.perm_append_comm
 have old:∀ x,x∈D++(W++[v])->x=0\/∃ g∈L,g.1=x/\g.2.1∈D:=fun x hx=>by
  rcases List.mem_append.mp hx with hx | hx
  ·obtain⟨i,hi,rfl⟩:=List.getElem_of_mem hx
   rcases M.up i hi with z |⟨g,hg,e,u⟩
   ·exact .inl z
   ·exact .inr ⟨g,hg,e,List.mem_of_mem_take u⟩
  ·exact M.wup x hx
 refine⟨perm.nodup_iff.mpr (List.nodup_append.mpr ⟨M.nd,kn,fun a ha b hb e=>?_⟩),perm.mem_iff.mpr (List.mem_append_left _ M.zero),fun i hi=>?_,fun x hx=>?_,fun g hg hu=>?_⟩
 ·obtain⟨g,hg,eb,ev⟩:=(mK b).mp hb
  rcases old a ha with z |⟨g',hg',ea,u⟩
  ·exact(H.ne hg).1 (by rw[eb,<- e,z])
  ·rw[H.one hg' hg (by rw[ea,eb,e]),ev]at u
   exact vD u
 ·by_cases z:i<D.length
  ·rw[List.getElem_append_left z,List.take_append_of_le_length (by omega)]
   exact M.up i z
  ·have ei:i=D.length:=by rw[List.length_append,List.length_singleton]at hi;omega
   subst ei
   rw[List.getElem_append_right (Nat.le_refl _),List.take_left' rfl]
   simp only[Nat.sub_self,List.getElem_cons_zero]
   exact M.wup v (List.mem_append_right _ (List.mem_singleton.mpr rfl))
 ·rcases List.mem_append.mp hx with hx | hx
  ·rcases M.wup x (List.mem_append_left _ hx)with z |⟨g,hg,e,u⟩
   ·exact .inl z
   ·exact .inr ⟨g,hg,e,List.mem_append_left _ u⟩
  ·obtain⟨g,hg,e,ev⟩:=(mK x).mp hx
   exact .inr ⟨g,hg,e,List.mem_append_right _ (List.mem_singleton.mpr ev)⟩
 ·refine perm.mem_iff.mpr ?_
  rcases List.mem_append.mp hu with hu | hu
  ·exact List.mem_append_left _ (M.down g hg hu)
  ·exact List.mem_append_right _ ((mK _).mpr ⟨g,hg,rfl,List.mem_singleton.mp hu⟩)
theorem met_len(H:Hang n ties L){D W:List Int}(M:Met L D W):(D++W).length<=n/\∀ x∈D++W,0<=x/\x<n:=by
 have n1:=H.n1
 have rg:∀ x∈D++W,x∈0 :: L.map (·.1):=fun x hx=>by
  have:x=0\/∃ g∈L,g.1=x:=by
   rcases List.mem_append.mp hx with hx | hx
   ·obtain⟨i,hi,rfl⟩:=List.getElem_of_mem hx
    rcases M.up i hi with z |⟨g,hg,e,u⟩
    ·exact .inl z
    ·exact .inr ⟨g,hg,e⟩
   ·rcases M.wup x hx with z |⟨g,hg,e,u⟩
    ·exact .inl z
    ·exact .inr ⟨g,hg,e⟩
  rcases this with z |⟨g,hg,e⟩
  ·rw[z];exact List.mem_cons_self ..
  ·exact List.mem_cons_of_mem _ (List.mem_map.mpr ⟨g,hg,e⟩)
 refine⟨?_,fun x hx=>?_⟩
 ·have:=le_sub M.nd rg
  rw[List.length_cons,List.length_map,H.len]at this
  exact this
 ·rcases List.mem_cons.mp (rg x hx)with e | e
  ·omega
  ·obtain⟨g,hg,rfl⟩:=List.mem_map.mp e
   exact H.rg g hg
theorem met_end(H:Hang n ties L){D:List Int}(M:Met L D []):D.Nodup/\D.length=n/\(∀ x∈D,0<=x/\x<n)/\(0:Int)∈D:=by
 have nd:=M.nd
 have z0:=M.zero
 obtain⟨ln,rg⟩:=met_len H M
 rw[List.append_nil]at nd z0 ln rg
 have all:∀ (m i:Nat) (hi:i<L.length),i<m->L[i].1∈D:=by
  intro m
  induction m with
  |zero=>intro i hi z;omega
  |succ m ih =>
   intro i hi im
   have:L[i].2.1∈D:=by
    rcases List.mem_cons.mp (H.up i hi)with e | e
    ·rw[e];exact z0
    ·obtain⟨g,hg,eg⟩:=List.mem_map.mp e
     obtain⟨j,hj,rfl⟩:=List.getElem_of_mem hg
     rw[List.length_take]at hj
     rw[List.getElem_take]at eg
     rw[<- eg]
     exact ih j (by omega) (by omega)
   have:=M.down _ (List.getElem_mem hi) this
   rw[List.append_nil]at this
   exact this
 have ge:=le_sub H.nd (m:=D) fun x hx=>by
  rcases List.mem_cons.mp hx with e | e
  ·rw[e];exact z0
  ·obtain⟨g,hg,rfl⟩:=List.mem_map.mp e
   obtain⟨i,hi,rfl⟩:=List.getElem_of_mem hg
   exact all (i+1) i hi (by omega)
 rw[List.length_cons,List.length_map,H.len]at ge
 exact⟨nd,by omega,rg,z0⟩
end
end Hng
namespace K40
open PySem L2 PyProof.Rows
open Flw (Beside Joins Parts Tree)
theorem rch_trans{R:Int->Int->Prop}{u v w:Int}(h1:Flw.Rch R [u] v)(h2:Flw.Rch R [v] w):Flw.Rch R [u] w:=by
 induction h2 with
 |base h=>rw[List.mem_singleton.mp h];exact h1
 |step _ r ih=>exact .step ih r
theorem rch_sym{R:Int->Int->Prop}(sy:∀ p v,R p v->R v p){u v:Int}(h:Flw.Rch R [u] v):Flw.Rch R [v] u:=by
 induction h with
 |base h=>rw[List.mem_singleton.mp h];exact .base (List.mem_singleton.mpr rfl)
 |step _ r ih=>exact rch_trans (.step (.base (List.mem_singleton.mpr rfl)) (sy _ _ r)) ih
theorem beside_sym{ts:List Tie}(p v:Int)(h:Beside ts p v):Beside ts v p:=by
 obtain⟨x,hx,j⟩:=h
 exact⟨x,hx,j.elim (fun z=>.inr ⟨z.2,z.1⟩) fun z=>.inl ⟨z.2,z.1⟩⟩
inductive Dn(ns:List Int)(ts:List Tie)(i:Nat):Int->Prop
 |base {b}:ns[i+1]?=some b->Dn ns ts i b
 |step {k j a b x}:Dn ns ts i a->ts[k]?=some x->j<=k->ns[j]?=some a->ns[k+1]?=some b->((x.1=a/\x.2.1=b)\/(x.1=b/\x.2.1=a))->Dn ns ts i b
theorem Dn.low{ns:List Int}{ts:List Tie}{i:Nat}{c:Int}(nd:ns.Nodup)(h:Dn ns ts i c):∃ m,i+1<=m/\ns[m]?=some c:=by
 induction h with
 |base e=>exact⟨_,Nat.le_refl _,e⟩
 | @step k j a b x _ _ jk ga gb _ ih =>
  obtain⟨m,h1,h2⟩:=ih
  have:=nd_at nd h2 ga
  exact⟨k+1,by omega,gb⟩
theorem tree_of{ns:List Int}{ts:List Tie}{n:Nat}(pm:ns.Perm (upto n))(hg:Hg ns ts)(l:ts.length+1=n):Tree n ts:=by
 have nd:ns.Nodup:=pm.nodup_iff.mpr (upto_nodup n)
 have nl:ns.length=n:=by rw[pm.length_eq,upto_length]
 refine⟨fun x hx=>?_,?_⟩
 ·obtain⟨i,hi,ex⟩:=List.getElem_of_mem hx
  have gx:ts[i]?=some x:=by rw[List.getElem?_eq_getElem hi,ex]
  obtain⟨j,a,b,ji,ga,gb,e⟩:=hg i x gx
  have db:Dn ns ts i b:=.base gb
  have da:¬ Dn ns ts i a:=fun z=>by
   obtain⟨m,h1,h2⟩:=z.low nd
   have:=nd_at nd h2 ga
   omega
  refine⟨Dn ns ts i,?_,fun y hy ne=>?_⟩
  ·rcases e with⟨e1,e2⟩ |⟨e1,e2⟩ <;> rw[e1,e2]
   ·exact⟨fun z=>absurd z da,fun z=>absurd db z⟩
   ·exact⟨fun _=>da,fun _=>db⟩
  ·obtain⟨k,hk,ey⟩:=List.getElem_of_mem hy
   have gy:ts[k]?=some y:=by rw[List.getElem?_eq_getElem hk,ey]
   obtain⟨j',a',b',jk,ga',gb',e'⟩:=hg k y gy
   have up:Dn ns ts i a'->Dn ns ts i b':=fun z=>.step z gy jk ga' gb' e'
   have down:Dn ns ts i b'->Dn ns ts i a':=fun z=>by
    cases z with
    |base h =>
     have:=nd_at nd h gb'
     have ki:k=i:=by omega
     subst ki
     rw[gx]at gy
     cases gy
     exact absurd rfl ne
    | @step k2 j2 a2 _ x2 d gx2 jk2 ga2 gb2 e2 =>
     have:=nd_at nd gb2 gb'
     have kk:k2=k:=by omega
     subst kk
     rw[gy]at gx2
     cases gx2
     have ea:a2=a':=by
      rcases e' with⟨f1,f2⟩ |⟨f1,f2⟩ <;> rcases e2 with⟨g1,g2⟩ |⟨g1,g2⟩ <;> omega
     rw[<- ea];exact d
   rcases e' with⟨f1,f2⟩ |⟨f1,f2⟩ <;> rw[f1,f2]
   ·exact⟨up,down⟩
   ·exact⟨down,up⟩
 ·have h0:0<ns.length:=by omega
  have fr:∀ (m:Nat) (c:Int),ns[m]?=some c->Flw.Rch (Beside ts) [ns[0]] c:=by
   intro m
   induction m using Nat.strongRecOn with
   |ind m ih =>
    intro c hc
    cases m with
    |zero =>
     rw[List.getElem?_eq_getElem h0]at hc
     cases hc
     exact .base (List.mem_singleton.mpr rfl)
    |succ k =>
     have hk:k<ts.length:=by
      have:=(List.getElem?_eq_some_iff.mp hc).1
      omega
     obtain⟨j,a,b,jk,ga,gb,e⟩:=hg k _ (List.getElem?_eq_getElem hk)
     rw[hc]at gb
     cases gb
     refine .step (ih j (by omega) a ga) ⟨_,List.getElem_mem hk,?_⟩
     rcases e with⟨f1,f2⟩ |⟨f1,f2⟩
     ·exact .inl ⟨f1,f2⟩
     ·exact .inr ⟨f2,f1⟩
  have all:∀ c:Int,0<=c->c<n->Flw.Rch (Beside ts) [ns[0]] c:=fun c c0 c1=>by
   obtain⟨m,hm,e⟩:=List.getElem_of_mem (pm.mem_iff.mpr (mem_upto.mpr ⟨c0,c1⟩))
   exact fr m c (by rw[List.getElem?_eq_getElem hm,e])
  exact fun u v u0 u1 v0 v1=>rch_trans (rch_sym beside_sym (all u u0 u1)) (all v v0 v1)
theorem TreeAs.tree{n:Nat}{ties:List Tie}(h:TreeAs n ties):Tree n ties:=by
 obtain⟨ns,ts,pm,hg,l,p⟩:=h
 obtain⟨c,a⟩:=tree_of pm hg l
 refine⟨fun x hx=>?_,fun u v u0 u1 v0 v1=>?_⟩
 ·obtain⟨D,P⟩:=c x (p.mem_iff.mp hx)
  exact⟨D,P.one,fun y hy=>P.rest y (p.mem_iff.mp hy)⟩
 ·have:=a u v u0 u1 v0 v1
  clear v0 v1
  induction this with
  |base h=>exact .base h
  |step _ r ih =>
   obtain⟨x,hx,j⟩:=r
   exact .step ih ⟨x,p.mem_iff.mpr hx,j⟩
theorem tieLt_irr{x:Tie}:¬ tieLt x x:=fun h=>by
 unfold tieLt at h
 simp[Srt.lexlt]at h
theorem ties_nodup{ties:List Tie}(pw:ties.Pairwise tieLt):ties.Nodup:=List.Pairwise.imp (fun {a b} (h:tieLt a b) (e:a=b)=>tieLt_irr (x:=b) (by rw[e]at h;exact h)) pw
end K40
namespace Nar
open L2
noncomputable def ch(ps:List Int)(p:Int):List Int:=if p∈ps then [p]else ps
noncomputable def RL(n:Nat)(ps ord:List Int):Nat->List Row
 | 0=>[List.replicate n none]
 |i+1=>(RL n ps ord i).flatMap fun r=>(ch ps (ord.getD i 0)).map (giv r (ord.getD i 0))
structure OrdN(n:Nat)(ord:List Int):Prop where
 nd:ord.Nodup
 len:ord.length=n
 rg:∀ p∈ord,0<=p/\p<n
theorem OrdN.at{n:Nat}{ord:List Int}(o:OrdN n ord){i:Nat}(h:i<n):ord.getD i 0=ord[i]'(by rw[o.len];exact h)/\0<=ord.getD i 0/\ord.getD i 0<n/\ord.getD i 0∉ord.take i/\ord.take (i+1)=ord.take i++[ord.getD i 0]:=by
 have il:i<ord.length:=by rw[o.len];exact h
 have e:ord.getD i 0=ord[i]:=by rw[List.getD_eq_getElem?_getD,List.getElem?_eq_getElem il];rfl
 refine⟨e,?_⟩
 rw[e]
 refine⟨(o.rg _ (List.getElem_mem il)).1,(o.rg _ (List.getElem_mem il)).2,fun z=>?_,List.take_succ_eq_append_getElem il⟩
 obtain⟨j,hj,ej⟩:=List.getElem_of_mem z
 rw[List.length_take]at hj
 rw[List.getElem_take]at ej
 have:=(List.getElem_inj (h₀:=by omega) (h₁:=il) o.nd).mp ej
 omega
end Nar
namespace Hng
open Nar (bes Tie ch)
structure Lst(l:List Int)(z:Int):Prop where
 mem:z∈l
 le:∀ y∈l,z<=y
theorem Lst.uniq{l:List Int}{y z:Int}(a:Lst l y)(b:Lst l z):y=z:=Int.le_antisymm (a.le z b.mem) (b.le y a.mem)
theorem Lst.of_mem{l l':List Int}{z:Int}(h:∀ x,x∈l↔x∈l')(a:Lst l z):Lst l' z:=⟨(h z).mp a.mem,fun y hy=>a.le y ((h y).mpr hy)⟩
noncomputable def mn:List Int->Int
 |[]=>0
 |[a]=>a
 |a :: b :: l=>if a<mn (b :: l)then a else mn (b :: l)
theorem mn_lst:∀ {l:List Int},l≠[]->Lst l (mn l)
 |[],h=>absurd rfl h
 |[a],_=>⟨List.mem_singleton.mpr rfl,fun y hy=>by rw[List.mem_singleton.mp hy];exact Int.le_refl _⟩
 |a :: b :: l,_=>by
  obtain⟨m,le⟩:=mn_lst (l:=b :: l) (by simp)
  unfold mn
  by_cases z:a<mn (b :: l)
  ·rw[if_pos z]
   refine⟨List.mem_cons_self ..,fun y hy=>?_⟩
   rcases List.mem_cons.mp hy with e | hy
   ·omega
   ·have:=le y hy;omega
  ·rw[if_neg z]
   refine⟨List.mem_cons_of_mem _ m,fun y hy=>?_⟩
   rcases List.mem_cons.mp hy with e | hy
   ·omega
   ·exact le y hy
theorem sum_perm{l l':List Int}(p:l.Perm l'):l.sum=l'.sum:=by
 induction p with
 |nil=>rfl
 |cons x _ ih=>rw[List.sum_cons,List.sum_cons,ih]
 |swap x y l=>rw[List.sum_cons,List.sum_cons,List.sum_cons,List.sum_cons];omega
 |trans _ _ a b=>exact a.trans b
noncomputable def opn(ps:List Int)(v q:Int):Prop:=v=q\/v∉ps
noncomputable instance (ps:List Int) (v q:Int):Decidable (opn ps v q):=by unfold opn;infer_instance
noncomputable def lo(ps:List Int)(row:List (Option Int))(q w:Int):List (Int×Int):=(ps.zip row).filterMap fun x=>x.2.map fun z=>(if x.1=q then z else z+w,x.1)
noncomputable def mv(ps:List Int)(row:List (Option Int))(q w:Int):Int:=mn ((lo ps row q w).map (·.1))
noncomputable def due(ps:List Int)(R:Int->List (Option Int))(ks:List (Int×Int))(q:Int):Int:=(ks.map fun x=>mv ps (R x.1) q x.2).sum
noncomputable def rowOf(ps:List Int)(R:Int->List (Option Int))(v:Int)(ks:List (Int×Int)):List (Option Int):=ps.map fun q=>if opn ps v q then some (due ps R ks q)else none
theorem due_perm{ps:List Int}{R:Int->List (Option Int)}{ks ks':List (Int×Int)}(p:ks.Perm ks')(q:Int):due ps R ks q=due ps R ks' q:=sum_perm (p.map _)
theorem row_perm{ps:List Int}{R:Int->List (Option Int)}{v:Int}{ks ks':List (Int×Int)}(p:ks.Perm ks'):rowOf ps R v ks=rowOf ps R v ks':=by
 unfold rowOf
 refine List.map_congr_left fun q _=>?_
 rw[due_perm p]
noncomputable def Tab(n:Nat)(ps:List Int)(L:List Ht)(R:Int->List (Option Int)):Prop:=∀ v:Int,0<=v->v<n->R v=rowOf ps R v (kids L v)
theorem mem_ch{ps:List Int}{v q:Int}:q∈ch ps v↔q∈ps/\opn ps v q:=by
 unfold ch opn
 by_cases z:v∈ps
 ·rw[if_pos z,List.mem_singleton]
  constructor
  ·intro e;rw[e];exact⟨z,.inl rfl⟩
  ·rintro⟨_,e | e⟩
   ·exact e.symm
   ·exact absurd z e
 ·rw[if_neg z]
  exact⟨fun h=>⟨h,.inr z⟩,fun h=>h.1⟩
theorem zip_self{α β:Type}{f:α->β}:∀ (l:List α),l.zip (l.map f)=l.map fun a=>(a,f a)
 |[]=>rfl
 |a :: l=>by rw[List.map_cons,List.zip_cons_cons,zip_self l];rfl
theorem lo_row{ps:List Int}{R:Int->List (Option Int)}{v q w:Int}{ks:List (Int×Int)}{y:Int×Int}:y∈lo ps (rowOf ps R v ks) q w↔y.2∈ch ps v/\y.1=if y.2=q then due ps R ks y.2 else due ps R ks y.2+w:=by
 unfold lo rowOf
 rw[zip_self,List.mem_filterMap]
 constructor
 ·rintro⟨x,hx,e⟩
  obtain⟨o,ho,rfl⟩:=List.mem_map.mp hx
  by_cases z:opn ps v o
  ·rw[if_pos z]at e
   have e:some (if o=q then due ps R ks o else due ps R ks o+w,o)=some y:=e
   injection e with e
   rw[<- e]
   exact⟨mem_ch.mpr ⟨ho,z⟩,rfl⟩
  ·rw[if_neg z]at e
   cases e
 ·rintro⟨h1,h2⟩
  obtain⟨ho,z⟩:=mem_ch.mp h1
  refine⟨_,List.mem_map.mpr ⟨y.2,ho,rfl⟩,?_⟩
  rw[if_pos z]
  show some (if y.2=q then due ps R ks y.2 else due ps R ks y.2+w,y.2)=some y
  rw[<- h2]
theorem ch_ne{ps:List Int}(h:ps≠[])(v:Int):∃ q,q∈ch ps v:=by
 unfold ch
 by_cases z:v∈ps
 ·rw[if_pos z];exact⟨v,List.mem_singleton.mpr rfl⟩
 ·rw[if_neg z]
  cases ps with
  |nil=>exact absurd rfl h
  |cons a l=>exact⟨a,List.mem_cons_self ..⟩
theorem lo_ne{ps:List Int}(h:ps≠[]){R:Int->List (Option Int)}{v q w:Int}{ks:List (Int×Int)}:lo ps (rowOf ps R v ks) q w≠[]:=fun z=>by
 obtain⟨o,ho⟩:=ch_ne h v
 have:(if o=q then due ps R ks o else due ps R ks o+w,o)∈lo ps (rowOf ps R v ks) q w:=lo_row.mpr ⟨ho,rfl⟩
 rw[z]at this
 cases this
theorem mv_lst{ps:List Int}(h:ps≠[]){R:Int->List (Option Int)}{v q w:Int}{ks:List (Int×Int)}:Lst ((ch ps v).map fun o=>if o=q then due ps R ks o else due ps R ks o+w) (mv ps (rowOf ps R v ks) q w):=by
 refine Lst.of_mem (fun x=>?_) (mn_lst (l:=(lo ps (rowOf ps R v ks) q w).map (·.1)) (fun z=>lo_ne h (List.map_eq_nil_iff.mp z)))
 rw[List.mem_map,List.mem_map]
 constructor
 ·rintro⟨y,hy,rfl⟩
  obtain⟨h1,h2⟩:=lo_row.mp hy
  exact⟨y.2,h1,h2.symm⟩
 ·rintro⟨o,ho,rfl⟩
  exact⟨(_,o),lo_row.mpr ⟨ho,rfl⟩,rfl⟩
noncomputable def asg(ps:List Int)(first:Int):List Ht->List (Int->Int)
 |[]=>[fun _=>first]
 |h :: S=>(asg ps first S).flatMap fun a=>(ch ps h.1).map fun o=>fun u=>if u=h.1 then o else a u
noncomputable def wys(ps:List Int)(first:Int)(S:List Ht)(k:Nat):List (Int->Int):=asg ps first (S.take k).reverse
theorem wys_zero{ps:List Int}{first:Int}{S:List Ht}:wys ps first S 0=[fun _=>first]:=by unfold wys;rw[List.take_zero];rfl
theorem wys_succ{ps:List Int}{first:Int}{S:List Ht}{k:Nat}(h:k<S.length):wys ps first S (k+1)=(wys ps first S k).flatMap fun a=>(ch ps S[k].1).map fun o=>fun u=>if u=S[k].1 then o else a u:=by
 unfold wys
 rw[List.take_succ_eq_append_getElem h,List.reverse_append]
 rfl
noncomputable def pay(a:Int->Int)(h:Ht):Int:=if a h.1=a h.2.1 then 0 else h.2.2
theorem lst_flat{A:List (Int->Int)}{F:(Int->Int)->List (Int->Int)}{g g':(Int->Int)->Int}{z:Int}(h:∀ a∈A,Lst ((F a).map g') (g a))(l:Lst (A.map g) z):Lst ((A.flatMap F).map g') z:=by
 refine⟨?_,fun y hy=>?_⟩
 ·obtain⟨a,ha,rfl⟩:=List.mem_map.mp l.mem
  obtain⟨b,hb,e⟩:=List.mem_map.mp (h a ha).mem
  exact List.mem_map.mpr ⟨b,List.mem_flatMap.mpr ⟨a,ha,hb⟩,e⟩
 ·obtain⟨b,hb,rfl⟩:=List.mem_map.mp hy
  obtain⟨a,ha,hb⟩:=List.mem_flatMap.mp hb
  exact Int.le_trans (l.le _ (List.mem_map.mpr ⟨a,ha,rfl⟩)) ((h a ha).le _ (List.mem_map.mpr ⟨b,hb,rfl⟩))
structure Sub(L:List Ht)(v:Int)(S:List Ht):Prop where
 nd:(v :: S.map (·.1)).Nodup
 up:∀ (i:Nat) (h:i<S.length),S[i].2.1∈v :: (S.take i).map (·.1)
 all:∀ c∈v :: S.map (·.1),(kids L c).Perm (kids S c)
noncomputable def vl(ps:List Int)(R:Int->List (Option Int))(v:Int)(S:List Ht)(k:Nat)(a:Int->Int):Int :=
 ((S.take k).map (pay a)).sum+((S.drop k).map fun h=>if h.2.1∈v :: (S.take k).map (·.1)then mv ps (R h.1) (a h.2.1) h.2.2 else 0).sum
theorem sum_add{α:Type}{f g h:α->Int}:∀ {l:List α},(∀ x∈l,f x=g x+h x)->(l.map f).sum=(l.map g).sum+(l.map h).sum
 |[],_=>rfl
 |a :: l,e=>by
  rw[List.map_cons,List.map_cons,List.map_cons,List.sum_cons,List.sum_cons,List.sum_cons,sum_add (l:=l) fun x hx=>e x (List.mem_cons_of_mem _ hx),e a (List.mem_cons_self ..)]
  omega
theorem sum_if{α:Type}{p:α->Prop}[DecidablePred p]{f:α->Int}:∀ {l:List α},(l.map fun x=>if p x then f x else 0).sum=((l.filter fun x=>decide (p x)).map f).sum
 |[]=>rfl
 |a :: l=>by
  rw[List.map_cons,List.sum_cons,sum_if (l:=l),List.filter_cons]
  by_cases z:p a
  ·rw[if_pos z,if_pos (decide_eq_true z),List.map_cons,List.sum_cons]
  ·rw[if_neg z,if_neg (fun w=>z (of_decide_eq_true w))]
   omega
section
variable{n:Nat}{ps:List Int}{L S:List Ht}{R:Int->List (Option Int)}{v first:Int}
theorem Sub.idx(B:Sub L v S){i j:Nat}(hi:i<S.length)(hj:j<S.length)(e:S[j].2.1=S[i].1):i<j:=by
 have nd:=B.nd
 rw[List.nodup_cons]at nd
 have up:=B.up j hj
 rw[e]at up
 rcases List.mem_cons.mp up with z | z
 ·exact absurd (List.mem_map.mpr ⟨_,List.getElem_mem hi,z⟩) nd.1
 ·obtain⟨g,hg,eg⟩:=List.mem_map.mp z
  obtain⟨k,hk,rfl⟩:=List.getElem_of_mem hg
  rw[List.length_take]at hk
  rw[List.getElem_take]at eg
  have:=fst_inj nd.2 (i:=k) (j:=i) (by omega) hi eg
  omega
theorem step_vl(B:Sub L v S)(hT:∀ c∈v :: S.map (·.1),R c=rowOf ps R c (kids L c))(ne:ps≠[]){k:Nat}(hk:k<S.length)(a:Int->Int) :
  Lst (((ch ps S[k].1).map fun o=>fun u=>if u=S[k].1 then o else a u).map (vl ps R v S (k+1))) (vl ps R v S k a):=by
 have nd:=B.nd
 rw[List.nodup_cons]at nd
 have cm:S[k].1∈v :: S.map (·.1):=List.mem_cons_of_mem _ (List.mem_map.mpr ⟨_,List.getElem_mem hk,rfl⟩)
 have kp:=B.all _ cm
 have rc:R S[k].1=rowOf ps R S[k].1 (kids S S[k].1):=by rw[hT _ cm];exact row_perm kp
 have cS:S[k].1∉v :: (S.take k).map (·.1):=fun z=>by
  rcases List.mem_cons.mp z with z | z
  ·exact nd.1 (z▸List.mem_map.mpr ⟨_,List.getElem_mem hk,rfl⟩)
  ·obtain⟨g,hg,eg⟩:=List.mem_map.mp z
   obtain⟨j,hj,rfl⟩:=List.getElem_of_mem hg
   rw[List.length_take]at hj
   rw[List.getElem_take]at eg
   have:=fst_inj nd.2 (i:=j) (j:=k) (by omega) hk eg
   omega
 have tk:(S.take (k+1)).map (·.1)=(S.take k).map (·.1)++[S[k].1]:=by rw[List.take_succ_eq_append_getElem hk,List.map_append];rfl
 have up:=B.up k hk
 have old:∀ (u:Int) (o:Int),u∈v :: (S.take k).map (·.1)->(if u=S[k].1 then o else a u)=a u:=fun u o hu=>if_neg (fun(z:u=S[k].1)=>cS (by rw[<- z];exact hu))
 have key:∀ o:Int,vl ps R v S (k+1) (fun u=>if u=S[k].1 then o else a u)=(vl ps R v S k a-mv ps (R S[k].1) (a S[k].2.1) S[k].2.2)+(if o=a S[k].2.1 then due ps R (kids S S[k].1) o else due ps R (kids S S[k].1) o+S[k].2.2):=fun o=>by
  have e1:((S.take k).map (pay fun u=>if u=S[k].1 then o else a u)).sum=((S.take k).map (pay a)).sum:=by
   congr 1
   refine List.map_congr_left fun h hh=>?_
   obtain⟨i,hi,rfl⟩:=List.getElem_of_mem hh
   rw[List.length_take]at hi
   rw[List.getElem_take]
   have u1:S[i].1∈v :: (S.take k).map (·.1):=List.mem_cons_of_mem _ (List.mem_map.mpr ⟨S[i],List.mem_take_iff_getElem.mpr ⟨i,by omega,rfl⟩,rfl⟩)
   have u2:S[i].2.1∈v :: (S.take k).map (·.1):=by
    rcases List.mem_cons.mp (B.up i (by omega))with z | z
    ·rw[z];exact List.mem_cons_self ..
    ·obtain⟨g,hg,eg⟩:=List.mem_map.mp z
     rw[<- eg]
     exact List.mem_cons_of_mem _ (List.mem_map.mpr ⟨g,(List.take_subset_take_left S (show i<=k by omega)) hg,rfl⟩)
   unfold pay
   show(if(if S[i].1=S[k].1 then o else a S[i].1)=(if S[i].2.1=S[k].1 then o else a S[i].2.1)then 0 else _)=_
   rw[old _ o u1,old _ o u2]
  have e2:pay (fun u=>if u=S[k].1 then o else a u) S[k]=if o=a S[k].2.1 then 0 else S[k].2.2:=by
   unfold pay
   show(if(if S[k].1=S[k].1 then o else a S[k].1)=(if S[k].2.1=S[k].1 then o else a S[k].2.1)then 0 else _)=_
   rw[if_pos rfl,old _ o up]
  have e3:((S.drop (k+1)).map fun h=>if h.2.1∈v :: (S.take (k+1)).map (·.1)then mv ps (R h.1) ((fun u=>if u=S[k].1 then o else a u) h.2.1) h.2.2 else 0).sum =
    ((S.drop (k+1)).map fun h=>if h.2.1∈v :: (S.take k).map (·.1)then mv ps (R h.1) (a h.2.1) h.2.2 else 0).sum+((S.drop (k+1)).map fun h=>if h.2.1=S[k].1 then mv ps (R h.1) o h.2.2 else 0).sum:=by
   refine sum_add fun h _=>?_
   rw[tk]
   show(if h.2.1∈v :: ((S.take k).map (·.1)++[S[k].1])then mv ps (R h.1) (if h.2.1=S[k].1 then o else a h.2.1) h.2.2 else 0)=_
   by_cases z:h.2.1=S[k].1
   ·rw[if_pos (by rw[z];exact List.mem_cons_of_mem _ (List.mem_append_right _ (List.mem_singleton.mpr rfl))),if_pos z,if_neg (by rw[z];exact cS),if_pos z]
    omega
   ·by_cases y:h.2.1∈v :: (S.take k).map (·.1)
    ·rw[if_pos (by
      rcases List.mem_cons.mp y with e | e
      ·rw[e];exact List.mem_cons_self ..
      ·exact List.mem_cons_of_mem _ (List.mem_append_left _ e)),if_neg z,if_pos y,if_neg z]
     omega
    ·rw[if_neg (fun w=>by
      rcases List.mem_cons.mp w with e | e
      ·exact y (by rw[e];exact List.mem_cons_self ..)
      ·rcases List.mem_append.mp e with e | e
       ·exact y (List.mem_cons_of_mem _ e)
       ·exact z (List.mem_singleton.mp e)),if_neg y,if_neg z]
     rfl
  have e4:((S.drop (k+1)).map fun h=>if h.2.1=S[k].1 then mv ps (R h.1) o h.2.2 else 0).sum=due ps R (kids S S[k].1) o:=by
   rw[sum_if]
   unfold due kids
   rw[List.map_map]
   have:S.filter (fun h=>decide (h.2.1=S[k].1))=(S.drop (k+1)).filter fun h=>decide (h.2.1=S[k].1):=by
    have e:∀ p:Ht->Bool,S.filter p=(S.take (k+1)).filter p++(S.drop (k+1)).filter p:=fun p=>by rw[<- List.filter_append,List.take_append_drop]
    rw[e]
    have:(S.take (k+1)).filter (fun h=>decide (h.2.1=S[k].1))=[]:=by
     rw[List.filter_eq_nil_iff]
     intro g hg z
     obtain⟨i,hi,rfl⟩:=List.getElem_of_mem hg
     rw[List.length_take]at hi
     rw[List.getElem_take]at z
     have:=B.idx hk (by omega) (of_decide_eq_true z)
     omega
    rw[this,List.nil_append]
   rw[this]
   rfl
  unfold vl
  rw[e3,e4,List.take_succ_eq_append_getElem hk,List.map_append,List.sum_append,List.map_singleton,List.sum_singleton,e1,e2,List.drop_eq_getElem_cons hk,List.map_cons,List.sum_cons,if_pos up]
  by_cases z:o=a S[k].2.1
  ·rw[if_pos z,if_pos z];omega
  ·rw[if_neg z,if_neg z];omega
 have m:=mv_lst (ps:=ps) ne (R:=R) (v:=S[k].1) (q:=a S[k].2.1) (w:=S[k].2.2) (ks:=kids S S[k].1)
 rw[<- rc]at m
 rw[List.map_map]
 refine⟨?_,fun y hy=>?_⟩
 ·obtain⟨o,ho,e⟩:=List.mem_map.mp m.mem
  refine List.mem_map.mpr ⟨o,ho,?_⟩
  show vl ps R v S (k+1) _=_
  rw[key o]
  omega
 ·obtain⟨o,ho,rfl⟩:=List.mem_map.mp hy
  have:=m.le _ (List.mem_map.mpr ⟨o,ho,rfl⟩)
  show _<=vl ps R v S (k+1) _
  rw[key o]
  omega
theorem all_vl(B:Sub L v S)(hT:∀ c∈v :: S.map (·.1),R c=rowOf ps R c (kids L c))(ne:ps≠[]):∀ {k:Nat},k<=S.length->Lst ((wys ps first S k).map (vl ps R v S k)) (due ps R (kids L v) first)
 | 0,_=>by
  rw[wys_zero]
  have e:vl ps R v S 0 (fun _=>first)=due ps R (kids L v) first:=by
   rw[due_perm (B.all v (List.mem_cons_self ..))]
   unfold vl due kids
   rw[List.take_zero,List.drop_zero,List.map_nil,List.sum_nil,List.map_nil,List.map_map]
   have:(S.map fun h=>if h.2.1∈[v]then mv ps (R h.1) first h.2.2 else 0)=S.map fun h=>if h.2.1=v then mv ps (R h.1) first h.2.2 else 0:=List.map_congr_left fun h _=>by
    by_cases z:h.2.1=v
    ·rw[if_pos (List.mem_singleton.mpr z),if_pos z]
    ·rw[if_neg (fun w=>z (List.mem_singleton.mp w)),if_neg z]
   rw[this,sum_if,Int.zero_add]
   rfl
  rw[<- e]
  exact⟨List.mem_singleton.mpr rfl,fun y hy=>by rw[List.mem_singleton.mp hy];exact Int.le_refl _⟩
 |k+1,hk=>by
  rw[wys_succ (show k<S.length by omega)]
  exact lst_flat (fun a _=>step_vl B hT ne (by omega) a) (all_vl B hT ne (show k<=S.length by omega))
theorem brute(B:Sub L v S)(hT:∀ c∈v :: S.map (·.1),R c=rowOf ps R c (kids L c))(ne:ps≠[]):Lst ((wys ps first S S.length).map fun a=>(S.map (pay a)).sum) (due ps R (kids L v) first):=by
 have h:=all_vl (first:=first) B hT ne (Nat.le_refl S.length)
 have e:(wys ps first S S.length).map (vl ps R v S S.length)=(wys ps first S S.length).map fun a=>(S.map (pay a)).sum:=List.map_congr_left fun a _=>by
  unfold vl
  rw[List.take_length,List.drop_length,List.map_nil,List.sum_nil,Int.add_zero]
 rw[e]at h
 exact h
end
end Hng
namespace Srt
open PySem PySem.W PyProof.Rows
section
variable{prog:Program}{w:World}{A:Around}{E:Value->Shared->Prop}{s:Shared}
theorem min_listH{p:Addr}{its:Array Value}{bt:Nat->Nat->Bool}{Q:Value->Shared->Prop}(hh:A.handled=none)(lp:s.heap.IsList p its)(n0:0<its.size)(cm:CmpH prog w A.in1 s.heap its.size (fun i v=>its[i]?=some v) bt)
  (q:∀ v g tk,its[argBest bt (its.size-1)]?=some v->(∀ c o,s.heap.get? c=some o->g.get? c=some o)->Q v { s with heap:=g,toks:=tk }):wpAny (model prog w) A (call (.builtin "min") [.ref p]) Q E s:=by
 have nm:(toString "min"++toString ".loop":String) = "min.loop":=by decide
 have old:p<s.heap.objs.size:=Exists.elim lp fun _ z=>Heap.lt_size z.1
 refine call_function_tree F.kind_min F.plain_min F.entry_min (F.args_min1 _) ?_
 show wpAny _ A.in1 (Builtin.Builtins.bindParams "min" ["key","default"] 0 ⟨[],[]⟩ >>= _) _ _ s
 refine wpAny_bind (wpAny_of_eq (show Builtin.Builtins.bindParams "min" ["key","default"] 0 ⟨[],[]⟩=pure [none,none]from rfl) ?_)
 refine wpAny_bind (wpAny_pure (wpAny_bind (wpAny_pyIter_list lp (wpAny_bind (wpAny_newObj_type ?_)))))
 rw[nm]
 have W:=Walks.list (prog:=prog) (w:=w) (A:=A.in1) hh s.heap.objs.size p (Nat.ne_of_lt old) its
 refine wpAny_pure ⟨plainId_quiet F.plain_min_loop _,min_first (g0:=s.heap) W bt cm _ (fun hm=>?_) (fun c o e=>?_) n0 ⟨⟨_,Heap.get?_push_of_some _ (Heap.get?_push_size _ rfl),rfl,rfl⟩,(lp.push _).push _⟩ (fun c o e=>Heap.get?_push_of_some _ (Heap.get?_push_of_some _ e)) (Heap.get?_push_size _ rfl) fun v g tk pv kp=>?_⟩
 ·rw[Heap.size_push]at hm
  rcases List.mem_cons.mp hm with e | hm
  ·exact absurd e (Nat.succ_ne_self _)
  ·have e:=List.mem_singleton.mp hm
   rw[<- e]at old
   exact absurd old (Nat.not_lt_of_le (Nat.le_succ _))
 ·have lt:=Heap.lt_size e
  refine⟨fun hm=>Nat.ne_of_lt lt (List.mem_singleton.mp hm),fun z=>?_⟩
  rw[Heap.size_push]at z
  rw[z]at lt
  exact absurd lt (Nat.not_lt_of_le (Nat.le_succ _))
 ·refine q v g tk pv fun c o e=>kp c o (fun hm=>Nat.ne_of_lt (Heap.lt_size e) (List.mem_singleton.mp hm)) (fun z=>?_) (Heap.get?_push_of_some _ (Heap.get?_push_of_some _ e))
  have lt:=Heap.lt_size e
  rw[Heap.size_push]at z
  rw[z]at lt
  exact absurd lt (Nat.not_lt_of_le (Nat.le_succ _))
end
end Srt
namespace L2
open PySem PySem.W PyProof.Rows Srt
noncomputable def ltP(z y:Int×Int):Prop:=z.1<y.1\/(z.1=y.1/\z.2<y.2)
noncomputable instance (z y:Int×Int):Decidable (ltP z y):=by unfold ltP;infer_instance
noncomputable def btP(rs:List (Int×Int))(i j:Nat):Bool:=decide (ltP (rs.getD i (0,0)) (rs.getD j (0,0)))
theorem best_le(rs:List (Int×Int)):∀ n,argBest (btP rs) n<=n/\∀ i,i<=n->¬ ltP (rs.getD i (0,0)) (rs.getD (argBest (btP rs) n) (0,0))
 | 0=>⟨Nat.le_refl _,fun i hi=>by
  obtain rfl:i=0:=by omega
  show ¬ ltP (rs.getD 0 (0,0)) (rs.getD 0 (0,0))
  unfold ltP
  omega⟩
 |n+1=>by
  obtain⟨h1,h2⟩:=best_le rs n
  unfold argBest
  cases hb:btP rs (n+1) (argBest (btP rs) n)with
  |true =>
   have hb:=of_decide_eq_true hb
   rw[if_pos rfl]
   refine⟨Nat.le_refl _,fun i hi=>?_⟩
   by_cases e:i=n+1
   ·rw[e]
    unfold ltP
    omega
   ·have:=h2 i (by omega)
    unfold ltP at *
    omega
  |false =>
   have hb:=of_decide_eq_false hb
   rw[if_neg Bool.false_ne_true]
   refine⟨by omega,fun i hi=>?_⟩
   by_cases e:i=n+1
   ·rw[e];exact hb
   ·exact h2 i (by omega)
theorem lex_pair(z y:Int×Int):lexO [some z.1,some z.2] [some y.1,some y.2]=decide (ltP z y):=by
 unfold lexO lexO lexO
 by_cases e:z.1=y.1
 ·rw[if_pos (by rw[e])]
  by_cases e2:z.2=y.2
  ·rw[if_pos (by rw[e2])]
   exact(decide_eq_false (by unfold ltP;omega)).symm
  ·rw[if_neg (fun w=>e2 (by injection w))]
   show decide (z.2<y.2)=_
   rw[decide_eq_decide]
   unfold ltP
   omega
 ·rw[if_neg (fun w=>e (by injection w))]
  show decide (z.1<y.1)=_
  rw[decide_eq_decide]
  unfold ltP
  omega
section
variable{X:Cx}
theorem call_minP(hc:X.calm=true)(hu:X.A.units+1<cLine):CallR X (.builtin "min") (fun xs H Q=>∃ (l:Addr) (as:List Addr) (rs:List (Int×Int)),xs=[.ref l]/\H l=some (.lst (as.map V.ref))/\Paired (fun a (r:Int×Int)=>H a=some (.tup [.int r.1,.int r.2])) as rs/\rs≠[] /\
  ∀ (a:Addr) (z:Int×Int),H a=some (.tup [.int z.1,.int z.2])->z∈rs->(∀ y∈rs,¬ ltP y z)->Q (.ref a) H):=by
 intro pins s σ H xs us Q I r h
 obtain⟨l,as,rs,rfl,hl,pa,ne,q⟩:=h
 obtain⟨u,rfl,rx⟩:=vals1 r
 cases rx
 obtain⟨its,r',pl,hz⟩:=I.list (SqL.of (K:=X.K) hl)
 have er:=refs_of r'
 subst er
 have al:=pa.length
 have rp:0<rs.length:=List.length_pos_iff.mpr ne
 have sz:(as.map Value.ref).toArray.size=rs.length:=by rw[List.size_toArray,List.length_map,al]
 have atA:∀ (i:Nat) (v:Value),(as.map Value.ref).toArray[i]?=some v->∃ (h1:i<as.length) (h2:i<rs.length),v = .ref as[i]/\H as[i]=some (.tup ([some rs[i].1,some rs[i].2].map oI))/\rs.getD i (0,0)=rs[i]:=fun i v e=>by
  rw[List.getElem?_toArray,List.getElem?_map]at e
  cases h:as[i]? with
  |none=>rw[h]at e;cases e
  |some a =>
   obtain⟨h1,e1⟩:=List.getElem?_eq_some_iff.mp h
   rw[h]at e
   injection e with e
   have h2:i<rs.length:=by omega
   refine⟨h1,h2,by rw[e1];exact e.symm,Paired.at pa i h1 h2,?_⟩
   rw[List.getD_eq_getElem?_getD,List.getElem?_eq_getElem h2]
   rfl
 obtain⟨b1,b2⟩:=best_le rs (rs.length-1)
 refine min_listH (bt:=btP rs) (I.ok.hd hc) pl.isList (by rw[sz];exact rp) (fun j u v s' Q' E' jl ex pu pv hq=>?_) fun v g tk hv kp=>?_
 ·obtain⟨h1,h2,rfl,g1,d1⟩:=atA _ _ pu
  obtain⟨h3,h4,rfl,g2,d2⟩:=atA _ _ pv
  have t:=ltAt_rows I (A:=X.A.in1) (show X.A.in1.units<cLine from hu) g1 g2 rfl ex
  rw[lex_pair]at t
  have e:btP rs (j+1) (argBest (btP rs) j)=decide (ltP rs[j+1] rs[argBest (btP rs) j]):=by rw[<- d1,<- d2];rfl
  rw[e]at hq
  exact t _ _ _ _ hq
 ·rw[sz]at hv
  obtain⟨h1,h2,rfl,g1,d1⟩:=atA _ _ hv
  refine⟨.ref as[argBest (btP rs) (rs.length-1)],H,I.kept kp,rfl,q _ _ g1 (List.getElem_mem h2) fun y hy=>?_⟩
  obtain⟨i,hi,rfl⟩:=List.getElem_of_mem hy
  have:=b2 i (by omega)
  rw[d1,List.getD_eq_getElem?_getD,List.getElem?_eq_getElem hi]at this
  exact this
end
open PySem PySem.W PyProof.Rows Srt
section
variable{X:Cx}
theorem call_listK(hc:X.calm=true):CallR X (.type "list") (fun xs H Q=>∃ (d:Addr) (kvs:List (Key×V)) (ns:List Int),xs=[V.ref d]/\H d=some (.dK kvs)/\kvs.map (·.1)=ns.map Sum.inl/\∀ (l:Addr),H l=none->Q (.ref l) (upd H l (.lst (ns.map V.int)))):=by
 intro pins s σ H xs us Q I r h
 obtain⟨d,kvs,ns,rfl,hd,hk,q⟩:=h
 obtain⟨u,rfl,rx⟩:=vals1 r
 cases rx
 obtain⟨hz,nsys,vs,rv,m⟩:=dk_of I.hok hd
 obtain⟨o,ep,its,ho,raw,vals⟩:=raw_of rv m
 have ev:(kvs.map fun kv=>kV kv.1)=ns.map V.int:=by
  have:=congrArg (List.map kV) hk
  rw[List.map_map,List.map_map]at this
  exact this
 rw[ev]at vals
 have li:=vals.length
 rw[List.length_map]at li
 have kl:kvs.length=ns.length:=by
  have:=congrArg List.length hk
  rwa [List.length_map,List.length_map]at this
 refine kdl_call (rawSrc nsys) (I.ok.hd hc) (raw _ ho) (by omega) fun h' tk acc c hk hS hacc=>?_
 have eacc:acc.toList=its:=by
  apply List.ext_getElem?
  intro i
  by_cases hi:i<acc.size
  ·have e1:acc.toList[i]?=some acc[i]:=by rw[Array.getElem?_toList,Array.getElem?_eq_getElem hi]
   have e2:=hacc.2 i acc[i] (Array.getElem?_eq_getElem hi)
   rw[e1]
   exact e2.symm
  ·have l0:=hacc.1
   rw[List.getElem?_eq_none (by rw[Array.length_toList];omega),List.getElem?_eq_none (by omega)]
 exact⟨.ref _,_,I.laid (t':=tk) hk (Nat.le_refl _) (show ObjOk X.prog X.w _ h' _ (.lst (ns.map V.int))from⟨by rw[List.length_map];omega,its,c,vals,by rw[<- eacc,Array.toArray_toList];exact hS⟩),rfl,q _ (I.hok.fresh (Nat.le_refl _))⟩
end
open PySem PySem.W PyProof.Rows Srt
open PySem PySem.W PyProof.Rows
noncomputable def Itrl(K:PySem.W.Frag)(a:Addr)(xs:List V):It :=
 ⟨fun i H=>SqL K H a xs/\i<xs.length,fun i H x H'=>H'=H/\xs.reverse[i]?=some x,fun i H=>SqL K H a xs/\xs.length<=i⟩
theorem turn_rev{P:Program}{w:World}{K:PySem.W.Frag}{tg:Expr}{a it:Addr}{xs:List V}:Turn P w K tg (Itrl K a xs) [it] it (fun i h=>i<=xs.length/\h.IsRevIter it a ((xs.length:Int)-1-(i:Int)))where
 mem:=by simp
 obj:=fun i h st b hb=>by
  have e:b=it:=by simpa using hb
  subst e
  obtain⟨_,o,e,c,d⟩:=st
  exact⟨o,e,fun v z=>by rw[d]at z;cases z⟩
 keep:=fun i h h' st k=>⟨st.1,st.2.at fun o e=>k it (by simp) o e⟩
 item:=by
  intro X hP hw hK hc i pins s σ H E I hf st hg
  subst hP hw hK
  obtain⟨hq,hi⟩:=hg
  obtain⟨its,rv,p,hz⟩:=I.list hq
  have hx:xs[xs.length-1-i]?=some (xs[xs.length-1-i]'(by omega)):=List.getElem?_eq_getElem (by omega)
  obtain⟨u,hu,ru⟩:=rv.get hx
  obtain⟨f0,f1,f2,f3,f4,f5⟩:=hf it (by simp)
  have e:(xs.length:Int)-1-(i:Int)=((xs.length-1-i:Nat):Int):=by omega
  have hit:=st.2
  rw[e]at hit
  refine wpAny_pyNext_rev_item hit p.isList (x:=u) (by simpa using hu) fun h' st' sb=>?_
  have I1:Inv X pins σ H { s with heap:=h' }:=I.turned (t':=s.toks) (fun b o hb e=>(sb.2 b hb).trans e) f0 f1 f3 f4 f5
  obtain⟨o,e1,c,d⟩:=id st'
  have e2:((xs.length-1-i:Nat):Int)-1=(xs.length:Int)-1-((i+1:Nat):Int):=by omega
  rw[e2]at st'
  exact⟨u,rfl,go_of (s:={ s with heap:=h' }) e1 c d (by decide) ⟨_,H,I1,ru,⟨rfl,by rw[List.getElem?_reverse hi];exact hx⟩,⟨hi,st'⟩,fun b hb=>(hf b hb).1⟩⟩
 done:=by
  intro X hP hw hK hc i pins s σ H E I hf st hg
  subst hP hw hK
  obtain⟨hq,hi⟩:=hg
  obtain⟨f0,f1,f2,f3,f4,f5⟩:=hf it (by simp)
  have e:(xs.length:Int)-1-(i:Int) = -1:=by have:=st.1;omega
  have hit:=st.2
  rw[e]at hit
  exact wpAny_pyNext_rev_end (I.ok.hd hc) hit fun h' eb=>⟨rfl,I.turned (t':=s.toks) (fun b o hb e=>eb b o hb e) f0 f1 f3 f4 f5⟩
 self:=fun _ _ _ _ _ st h=>wpAny_pyIter_revIter st.2 h
noncomputable def iRev(K:PySem.W.Frag)(ta:TA):TI:=fun σ H R=>ta σ H fun vs H1=>∃ a xs,vs=[.ref a]/\SqL K H1 a xs/\R (Itrl K a xs) H1
section
variable{X:Cx}
theorem pi_rev{tg a:Expr}{ta:TA}{p pos:Pos}(hg:Gl X "reversed")(hm:X.mg "reversed" = none)(ha:PA X [a] ta)(hs:starEach [a] X.env=[(false,eval a X.env)]:=by rfl):PI X tg (.Call (.Name "reversed" p) [a] [] pos) (iRev X.K ta):=by
 intro pins s σ H R I h
 refine Call_ (ld_blt I hg hm boot_reversed (PyProof.Rows.callWith_type1 (thn (ha pos pins s σ H _ I h) fun us s1 ⟨vs,H1,I1,r1,q1⟩=>?_) hs rfl))
 obtain⟨b,xs,e,hq,q⟩:=q1
 subst e
 cases r1 with
 |cons r rr =>
  cases rr
  cases r
  obtain⟨its,rv,pl,hz⟩:=I1.list hq
  have sz:its.toArray.size=xs.length:=by rw[List.size_toArray];exact rv.length.symm
  refine call_reversed_list pl.isList ?_
  rw[sz]
  have I2:=I1.kept (t':=s1.toks) (h':=s1.heap.push (revObj b ((xs.length:Int)-1))) fun c o e=>Heap.get?_push_of_some _ e
  have it:(s1.heap.push (revObj b ((xs.length:Int)-1))).IsRevIter s1.heap.objs.size b ((xs.length:Int)-1-((0:Nat):Int)):=⟨_,Heap.get?_push_size _ rfl,rfl,by show _=_;simp[revObj]⟩
  refine wpAny_pyIter_revIter (s:={ s1 with heap:=s1.heap.push (revObj b ((xs.length:Int)-1)) }) it ?_
  refine⟨s1.heap.objs.size,[s1.heap.objs.size],_,_,H1,rfl,I2,turn_rev,⟨Nat.zero_le _,it⟩,fun c hc=>?_,q⟩
  have e:c=s1.heap.objs.size:=by simpa using hc
  subst e
  exact I1.fpOk (Nat.le_refl _) (I1.hok.fresh (Nat.le_refl _))
end
theorem for_rev{K:PySem.W.Frag}{a:Addr}{xs:List V}{g:TG}{tb:TS}{D:Ends}{σ:St}{H:Hp}(Pv:Nat->St->Hp->Prop)(h0:Pv 0 σ H)(hl:∀ i σ H,i<=xs.length->Pv i σ H->SqL K H a xs)
  (hs:∀ i x σ H,xs.reverse[i]?=some x->Pv i σ H->g x σ H fun σ2 H2=>tb { D with nx:=Pv (i+1),ct:=Pv (i+1),bk:=D.nx } σ2 H2) (hd:∀ σ H,Pv xs.length σ H->D.nx σ H) :
  ∃ W:Nat->Nat->St->Hp->Prop,(∃ m,W 0 m σ H)/\∀ i m σ H,W i m σ H ->
   ((Itrl K a xs).stop i H/\D.nx σ H)\/((Itrl K a xs).go i H/\∃ N:St->Hp->Prop,(∀ σ' H',N σ' H'->∃ m',m'<m/\W (i+1) m' σ' H')/\∀ x H',(Itrl K a xs).yld i H x H'->g x σ H' fun σ2 H2=>tb { D with nx:=N,ct:=N,bk:=D.nx } σ2 H2):=by
 refine⟨fun i m σ H=>m=xs.length-i/\i<=xs.length/\Pv i σ H,⟨xs.length,by simp,Nat.zero_le _,h0⟩,?_⟩
 rintro i m σ H ⟨rfl,hi,p⟩
 have q:=hl i σ H hi p
 by_cases hlt:i<xs.length
 ·refine .inr ⟨⟨q,hlt⟩,Pv (i+1),fun σ' H' p'=>⟨xs.length-(i+1),by omega,rfl,hlt,p'⟩,fun x H' y=>?_⟩
  obtain⟨rfl,e⟩:=y
  exact hs i x σ _ e p
 ·have e:i=xs.length:=by omega
  subst e
  exact .inl ⟨⟨q,Nat.le_refl _⟩,hd σ H p⟩
open PySem PySem.W PyProof.Rows Srt
noncomputable def Iti(d:Addr)(o:Obj)(kvs:List (Key×V)):It :=
 ⟨fun i H=>H d=some (.frz o (.dK kvs))/\i<kvs.length,fun i H v H'=>∃ T kv,v = .ref T/\H T=none/\H'=upd H T (.tup [kV kv.1,kv.2])/\kvs[i]?=some kv,fun i H=>H d=some (.frz o (.dK kvs))/\kvs.length<=i⟩
theorem turn_it{P:Program}{w:World}{K:PySem.W.Frag}{es:List Expr}{kk:Nat}{pos:Pos}{d it:Addr}{o:Obj}{kvs:List (Key×V)}{vs:List (Key×Value)}{ep:Nat}(raw:∀ g:Heap,g.get? d=some o->g.DictAt (mixKind P w) d vs ep)(rv:KV kvs vs) :
  Turn P w K (.Tuple es kk pos) (Iti d o kvs) [it] it (fun i h=>∃ ok ov,IsItemIter h it d i vs.length ep ok ov)where
 mem:=by simp
 obj:=fun i h st b hb=>by
  have e:b=it:=by simpa using hb
  subst e
  obtain⟨ok,ov,st⟩:=st
  exact⟨_,st,fun v z=>by cases z⟩
 keep:=fun i h h' st k=>by
  obtain⟨ok,ov,st⟩:=st
  exact⟨ok,ov,k it (by simp) _ st⟩
 item:=by
  intro X hP hw hK hc i pins s σ H E I hf st hg
  subst hP hw hK
  obtain⟨hd,hi⟩:=hg
  obtain⟨ok,ov,st⟩:=st
  have ho:s.heap.get? d=some o:=(I.hok d _ hd).1
  have vl:kvs.length=vs.length:=Paired.length rv
  have hiv:i<vs.length:=by omega
  obtain⟨ek,rvv⟩:=(show kvs[i].1=vs[i].1/\RelV kvs[i].2 vs[i].2 from Paired.at rv i hi hiv)
  have hn:H s.heap.objs.size=none:=I.hok.fresh (Nat.le_refl _)
  refine wpAny_pyNext_items_item st (raw _ ho) (k:=vs[i].1) (v:=vs[i].2) (by rw[List.getElem?_eq_getElem hiv]) fun key g hk e1 t1 sz kp=>⟨_,rfl,?_⟩
  refine wpAny_letOwnedTupleGo_items e1 fun g' e2 sb=>?_
  have zlt:it≠s.heap.objs.size:=Nat.ne_of_lt (Heap.lt_size st)
  have kp2:∀ b o,b∉[it]->s.heap.get? b=some o->g'.get? b=some o:=fun b o nb z=>by
   have nb:b≠it:=fun w=>nb (List.mem_singleton.mpr w)
   exact sb.extBut _ _ nb (kp b o nb z)
  have rk:RelV (kV kvs[i].1) key:=by
   rw[ek]
   have hk:keyIs vs[i].1 key=true:=hk
   rcases keyIs_shape hk with⟨i,t,e1,e2⟩ |⟨x,t,e1,e2⟩
   ·rw[e1,e2];exact⟨t,rfl⟩
   ·rw[e1,e2];exact⟨t,rfl⟩
  have I2:Inv X pins σ (upd H s.heap.objs.size (.tup [kV kvs[i].1,kvs[i].2])) { s with heap:=g',toks:=s.toks }:=I.turnedN (t':=s.toks) (ch:=[it]) (a:=s.heap.objs.size) (ob:=.tup [kV kvs[i].1,kvs[i].2]) hf kp2 (Nat.le_refl _) (show ObjOk X.prog X.w _ g' _ (.tup [kV kvs[i].1,kvs[i].2])from⟨by show 2<=sizeLine;decide,[key,vs[i].2],.cons rk (.cons rvv .nil),⟨_,sb.extBut _ _ (Ne.symm zlt) t1,rfl,⟨_,rfl⟩⟩⟩)
  refine⟨.ref s.heap.objs.size,_,I2,rfl,⟨_,kvs[i],rfl,hn,rfl,List.getElem?_eq_getElem hi⟩,⟨_,_,e2⟩,fun b hb=>?_⟩
  have e:b=it:=by simpa using hb
  rw[e,upd_ne zlt]
  exact(hf it (by simp)).1
 done:=by
  intro X hP hw hK hc i pins s σ H E I hf st hg
  subst hP hw hK
  obtain⟨hd,hi⟩:=hg
  obtain⟨ok,ov,st⟩:=st
  have ho:s.heap.get? d=some o:=(I.hok d _ hd).1
  have vl:kvs.length=vs.length:=Paired.length rv
  obtain⟨f0,f1,f2,f3,f4,f5⟩:=hf it (by simp)
  exact wpAny_pyNext_items_end (I.ok.hd hc) st (raw _ ho) (List.getElem?_eq_none (by omega)) fun h' eb=>⟨rfl,I.turned (t':=s.toks) (fun b o hb e=>eb b o hb e) f0 f1 f3 f4 f5⟩
 self:=fun _ _ _ _ _ st h=>by
  obtain⟨ok,ov,st⟩:=st
  exact kcp_self st h
noncomputable def iIt(tl:TE):TI:=fun σ H R=>tl σ H fun x H1=>∃ d kvs,x = .ref d/\H1 d=some (.dK kvs)/\∀ o,R (Iti d o kvs) (upd H1 d (.frz o (.dK kvs)))
section
variable{X:Cx}
theorem pi_items{es:List Expr}{kk:Nat}{tpos:Pos}{o:Expr}{td:TE}{apos cpos:Pos}(ho:PE X o td)(hbase:attributeBase o "items" X.env (eval o X.env)=eval o X.env:=by rfl)(line:(apos.endLine == cpos.line)=true:=by rfl):PI X (.Tuple es kk tpos) (.Call (.Attribute o "items" apos) [] [] cpos) (iIt td):=by
 intro pins s σ H R I h
 refine wpAny_Call_method hbase rfl line PySem.F.plainAttrs_dict PySem.F.slot_dict_items PySem.F.type_dict_items (thn (ho pins s σ H _ I h) fun u s1 ⟨x,H1,I1,rx,d,kvs,ex,hd,q1⟩=>?_)
 subst ex
 obtain rfl:u=Value.ref d:=rx
 obtain⟨hz,nsys,vs,rv,m⟩:=dk_of I1.hok hd
 obtain⟨ob,en,ep,h1,h2,h3,h4,h5,h6⟩:=id m
 have raw:∀ g:Heap,g.get? d=some ob->g.DictAt (mixKind X.prog X.w) d vs ep:=fun g eg=>⟨ob,en,eg,h2,h3,h4,h5,h6⟩
 have ty:s1.TypeIs (.ref d) "dict":=⟨ob,h1,h2.1⟩
 refine⟨ty,fun a e=>⟨ob,by injection e with e;rw[<- e];exact h1,h2.2.1⟩,?_⟩
 refine Calls.callWith_builtin rfl (PySem.evalArgs_none ?_)
 refine call_meetsIn PySem.F.slot_dict_items ty PySem.F.entry_dict_items (PySem.F.args_dict_items_1 _) (meets_dict_items (mixKind X.prog X.w) d nsys) ⟨⟨_,m⟩,?_⟩
 have I2:Inv X pins σ (upd H1 d (.frz ob (.dK kvs))) s1:=d_write (t':=s1.toks) (h':=s1.heap) I1 (by rw[hd];exact True.intro) ⟨rfl,fun _ _=>rfl⟩ ⟨ob,h1⟩ (show ObjOk X.prog X.w _ s1.heap d (.frz ob (.dK kvs))from⟨h1,hz,nsys,vs,rv,m⟩)
 have I3:=I2.kept (t':=s1.toks) (h':=s1.heap.push { cls:=.type "dict_items",data:=.fields #[.ref d] }) fun b o e=>Heap.get?_push_of_some _ e
 have h1':(s1.heap.push { cls:=.type "dict_items",data:=.fields #[.ref d] }).get? d=some ob:=Heap.get?_push_of_some _ h1
 refine wpAny_pyIter_items ⟨_,Heap.get?_push_size _ rfl,rfl,rfl⟩ (raw _ h1') ?_
 refine⟨_,[(s1.heap.push { cls:=.type "dict_items",data:=.fields #[.ref d] }).objs.size],_,_,_,rfl,I3.kept (t':=s1.toks) fun b o e=>Heap.get?_push_of_some _ e,turn_it raw rv,⟨_,_,Heap.get?_push_size _ rfl⟩,fun b hb=>?_,q1 ob⟩
 have e:b=(s1.heap.push { cls:=.type "dict_items",data:=.fields #[.ref d] }).objs.size:=by simpa using hb
 subst e
 exact I3.fpOk (Nat.le_refl _) (I3.hok.fresh (Nat.le_refl _))
end
theorem for_it{d:Addr}{o:Obj}{kvs:List (Key×V)}{g:TG}{tb:TS}{D:Ends}{σ:St}{H:Hp}(Pv:Nat->St->Hp->Prop)(h0:Pv 0 σ H)(hl:∀ i σ H,i<=kvs.length->Pv i σ H->H d=some (.frz o (.dK kvs)))
  (hs:∀ i kv σ H T,kvs[i]?=some kv->Pv i σ H->H T=none->g (.ref T) σ (upd H T (.tup [kV kv.1,kv.2])) fun σ2 H2=>tb { D with nx:=Pv (i+1),ct:=Pv (i+1),bk:=D.nx } σ2 H2) (hd:∀ σ H,Pv kvs.length σ H->D.nx σ H) :
  ∃ W:Nat->Nat->St->Hp->Prop,(∃ m,W 0 m σ H)/\∀ i m σ H,W i m σ H ->
   ((Iti d o kvs).stop i H/\D.nx σ H)\/((Iti d o kvs).go i H/\∃ N:St->Hp->Prop,(∀ σ' H',N σ' H'->∃ m',m'<m/\W (i+1) m' σ' H')/\∀ x H',(Iti d o kvs).yld i H x H'->g x σ H' fun σ2 H2=>tb { D with nx:=N,ct:=N,bk:=D.nx } σ2 H2):=by
 refine⟨fun i m σ H=>m=kvs.length-i/\i<=kvs.length/\Pv i σ H,⟨kvs.length,by simp,Nat.zero_le _,h0⟩,?_⟩
 rintro i m σ H ⟨rfl,hi,p⟩
 have q:=hl i σ H hi p
 by_cases hlt:i<kvs.length
 ·refine .inr ⟨⟨q,hlt⟩,Pv (i+1),fun σ' H' p'=>⟨kvs.length-(i+1),by omega,rfl,hlt,p'⟩,fun x H' y=>?_⟩
  obtain⟨T,kv,e1,hT,e2,y⟩:=y
  subst e1
  subst e2
  exact hs i kv σ H T y p hT
 ·have e:i=kvs.length:=by omega
  subst e
  exact .inl ⟨⟨q,Nat.le_refl _⟩,hd σ H p⟩
end L2
namespace K40
open PySem L2 PyProof.Rows
open Hng (Ht Hang kids Met Lst mn lo mv due rowOf Tab opn)
noncomputable def spIo:Sp:=fun vs H Q _=>∃ (b:Bool) (q:Addr) (ps:List Int) (v p:Int),vs=[.ref q,.int v,.int p]/\H q=some (sqO b (ps.map V.int))/\∀ H',Same H H'->Q (.bl (decide (opn ps v p))) H'
noncomputable def PrAt(H:Hp)(a:Addr)(z:Int×Int):Prop:=H a=some (.tup [.int z.1,.int z.2])
noncomputable def spLo:Sp:=fun vs H Q _=>∃ (b:Bool) (q o:Addr) (ps:List Int) (row:List (Option Int)) (ow h:Int),vs=[.ref q,.ref o,.int ow,.int h]/\H q=some (sqO b (ps.map V.int))/\H o=some (.lst (row.map oI))/\ps.length<=1000/\row.length=ps.length/\lo ps row ow h≠[] /\
 ∀ (a:Addr) (z:Int×Int) (H':Hp),PrAt H' a z->z∈lo ps row ow h->(∀ y∈lo ps row ow h,¬ ltP y z)->Same H H'->Q (.ref a) H'
theorem lo_mv{ps:List Int}{row:List (Option Int)}{ow h:Int}{z:Int×Int}(m:z∈lo ps row ow h)(le:∀ y∈lo ps row ow h,¬ ltP y z):z.1=mv ps row ow h:=by
 refine Lst.uniq (l:=(lo ps row ow h).map (·.1)) ⟨List.mem_map.mpr ⟨z,m,rfl⟩,fun y hy=>?_⟩ (Hng.mn_lst fun e=>by rw[List.map_eq_nil_iff.mp e]at m;cases m)
 obtain⟨x,hx,rfl⟩:=List.mem_map.mp hy
 have:=le x hx
 unfold ltP at this
 omega
theorem lo_take{ps:List Int}{row:List (Option Int)}{ow h:Int}{i:Nat}(h1:i<ps.length)(h2:i<row.length):((ps.zip row).take (i+1)).filterMap (fun x=>x.2.map fun z=>(if x.1=ow then z else z+h,x.1))=((ps.zip row).take i).filterMap (fun x=>x.2.map fun z=>(if x.1=ow then z else z+h,x.1))++(match row[i]with | none=>[] | some z=>[(if ps[i]=ow then z else z+h,ps[i])]):=by
 rw[List.take_succ_eq_append_getElem (by rw[List.length_zip];omega),List.filterMap_append,List.getElem_zip]
 congr 1
 cases row[i]with
 |none=>rfl
 |some z=>rfl
section
variable{P:Program}{w:World}{K:PySem.W.Frag}{mg:Str->Option Value}{base:Heap}
noncomputable abbrev nIo:List Str:=["posts","place","post"]
theorem scIo:FnScope nIo ["posts","place","post"] (defScope sIsOpenTo):=⟨rfl,rfl,rfl,by decide +kernel,rfl,by decide +kernel,by decide +kernel⟩
theorem ok_io{f:Addr}{fd:FuncData}(F:Fun K "is_open_to" "is_open_to" sIsOpenTo f fd):FnOk P w K mg base CX0 1 f fd ["posts","place","post"] spIo:=by
 refine F.ok scIo (fun vs H Q E h=>?_) (fun cdv A outer s H vs Q E hr h=>?_)
 ·obtain⟨b,q,ps,v,p,rfl,_⟩:=h
  rfl
 ·obtain⟨b,q,ps,v,p,rfl,gq,fin⟩:=h
  refine⟨_,(pss_one (ps_ret (pe_or (pe_cmpR op_eq (pv 1) (pv 2) (nomark _)) (pe_one (pe_cmpR (op_notInQ b) (pv 1) (pv 0) rfl))))),?_⟩
  refine⟨_,rfl,_,rfl,rfl,?_⟩
  refine⟨_,rfl,?_⟩
  by_cases z:v=p
  ·have e:decide (V.int v=V.int p)=true:=decide_eq_true (by rw[z])
   have o:decide (opn ps v p)=true:=decide_eq_true (.inl z)
   rw[o]at fin
   rw[e]
   exact iteT (fin _ (Same.refl _))
  ·have e:decide (V.int v=V.int p)=false:=decide_eq_false (fun w=>z (by injection w))
   rw[e]
   refine iteF ⟨_,rfl,_,rfl,q,_,rfl,gq,rfl,flat_ints _,?_⟩
   have o:decide (opn ps v p)=(if true=true then !inV (V.int v) (ps.map V.int)else inV (V.int v) (ps.map V.int)):=by
    rw[if_pos rfl,inV_ints,Bool.eq_iff_iff,decide_eq_true_eq]
    unfold opn
    cases h:ps.contains v with
    |true=>exact⟨fun y=>y.elim (fun w=>absurd w z) (fun w=>absurd (List.contains_iff_mem.mp h) w),fun y=>by cases y⟩
    |false=>exact⟨fun _=>rfl,fun _=>.inr fun w=>by rw[List.contains_iff_mem.mpr w]at h;cases h⟩
   rw[o]at fin
   exact fin _ (Same.refl _)
noncomputable abbrev nLo:List Str:=["posts","row","owner","heavy"]
theorem scLo:FnScope nLo ["posts","row","owner","heavy"] (defScope sLeastOf):=⟨rfl,rfl,rfl,by decide +kernel,rfl,by decide +kernel,by decide +kernel⟩
theorem csLo1:CompScope ["post","weight","owner","heavy"] [none,none,some 2,some 3] nLo (defScope sLeastOf) (scO [(".0",.local),("post",.local),("weight",.local),("heavy",.free),("owner",.free)]):=⟨rfl,by decide +kernel,by decide +kernel,by decide +kernel,rfl,capB_ok (by decide +kernel)⟩
theorem ndLo1:(["post","weight","owner","heavy"]:List Str).Nodup:=by decide +kernel
theorem ok_lo{f:Addr}{fd:FuncData}(F:Fun K "least_of" "least_of" sLeastOf f fd)(T:Txt mg)(T2:Txt2 mg):FnOk P w K mg base CX0 1 f fd ["posts","row","owner","heavy"] spLo:=by
 refine F.ok scLo (fun vs H Q E h=>?_) (fun cdv A outer s H vs Q E hr h=>?_)
 ·obtain⟨b,q,o,ps,row,ow,hv,rfl,_⟩:=h
  rfl
 ·obtain⟨b,q,o,ps,row,ow,hv,rfl,gq,go,pl,rl,ne,fin⟩:=h
  have hu1:_+1<cLine:=Nat.lt_of_le_of_lt (Nat.add_le_add_left (show 1<=64 by decide) _) hr.units
  refine⟨_,(pss_one (ps_ret (pe_callB (call_minP rfl hu1) (by rfl) T.min boot_min (@pa_comp _ _ _ _ _ _ _ _ (pe_comp rfl csLo1 (pi_zip b false (by rfl) T2.zip (@pa_nam _ _ _ _ _ _ (pv 0) (@pa_nam _ _ _ _ _ _ (pv 1) pa_nil))) (fun C s H fp=>(pg_tupK K rfl (n:=2) rfl (pgs_cons (pg_name (i:=0) ndLo1 rfl (Or.inl rfl)) (pgs_cons (pg_name (i:=1) ndLo1 rfl (Or.inl rfl)) pgs_nil)) rfl rfl)) (fun C s H fp=>(pf_one (pt_cmp (pc_notN (pv 1))))) (fun C s H fp=>(@pe_tup _ _ _ _ _ (@pa_ife _ _ _ _ _ _ _ _ (pe_ifExp (pt_cmpR op_eq (pv 0) (pv 2) (nomark _)) (pv 1) (pe_op op_add (pv 1) (pv 3))) (@pa_nam _ _ _ _ _ _ (pv 0) pa_nil))))) pa_nil)))),?_⟩
  have sq:SIs b H q (ps.map V.int):=by cases b <;> exact gq
  have mnl:min (ps.map V.int).length (row.map oI).length=ps.length:=by rw[List.length_map,List.length_map,rl];omega
  refine⟨_,rfl,_,rfl,q,o,rfl,⟨_,sq.sqB⟩,⟨_,(show SIs false H o (row.map oI)from go).sqB⟩,?_⟩
  refine comp_zip (K:=K) (b1:=b) (b2:=false) (l1:=q) (l2:=o) (xs:=ps.map V.int) (ys:=row.map oI) (fun i zs G=>Same H G/\∃ cs:List Addr,zs=cs.map V.ref/\Paired (PrAt G) cs (((ps.zip row).take i).filterMap fun x=>x.2.map fun z=>(if x.1=ow then z else z+hv,x.1))) (by rw[mnl,sizeLine_eq];omega) ⟨Same.refl _,[],rfl,.nil⟩ (fun i zs G _ z=>⟨(sq.same z.1).sqB,(show SIs false G o (row.map oI)from z.1 _ _ go).sqB⟩) ?_ ?_
  ·rintro i x y zs G T' hx hy ⟨sG,cs,rfl,pc⟩ hT
   obtain⟨il,ex⟩:=List.getElem?_eq_some_iff.mp hx
   obtain⟨il',ey⟩:=List.getElem?_eq_some_iff.mp hy
   rw[List.length_map]at il il'
   rw[List.getElem_map]at ex ey
   subst ex ey
   rw[lo_take il il']
   have sT:=Same.new (o:=.tup [.int ps[i],oI row[i]]) hT
   generalize ps[i]=p at *
   generalize row[i]=r at *
   refine⟨T',_,rfl,SqT.of upd_same,rfl,_,_,rfl,_,_,rfl,rfl,⟨rfl,rfl,trivial⟩,?_⟩
   refine⟨_,rfl,_,rfl,?_⟩
   cases r with
   |none =>
    refine iteF ⟨sG.trans sT,cs,rfl,?_⟩
    rw[List.append_nil]
    exact Paired.mapP pc fun _ _ h=>sT _ _ h
   |some z =>
    refine iteT ?_
    refine⟨_,rfl,_,rfl,rfl,_,rfl,?_⟩
    have go2:∀ (e:Int),e=(if p=ow then z else z+hv)->∀ (c:Addr),(upd G T' (.tup [.int p,.int z])) c=none->Same H (upd (upd G T' (.tup [.int p,.int z])) c (.tup [.int e,.int p]))/\∃ cs':List Addr,cs.map V.ref++[.ref c]=cs'.map V.ref/\Paired (PrAt (upd (upd G T' (.tup [.int p,.int z])) c (.tup [.int e,.int p]))) cs' (((ps.zip row).take i).filterMap (fun x=>x.2.map fun z=>(if x.1=ow then z else z+hv,x.1))++[(if p=ow then z else z+hv,p)]):=fun e ee c hc=>by
     have sc:=Same.new (o:=.tup [.int e,.int p]) hc
     refine⟨sG.trans (sT.trans sc),cs++[c],by rw[List.map_append];rfl,Paired.snoc (Paired.mapP pc fun _ _ h=>sc _ _ (sT _ _ h)) ?_⟩
     rw[<- ee]
     exact upd_same
    refine ite2 (fun h=>?_) (fun h=>?_)
    ·have h:p=ow:=by
      have:=of_decide_eq_true h
      injection this
     refine⟨_,rfl,_,rfl,(by show 2<=sizeLine;decide),fun c hc=>go2 z (by rw[if_pos h]) c hc⟩
    ·have h:¬ p=ow:=fun w=>h (decide_eq_true (by rw[w]))
     refine⟨_,rfl,_,rfl,_,_,rfl,rfl,_,rfl,(by show 2<=sizeLine;decide),fun c hc=>go2 (z+hv) (by rw[if_neg h]) c hc⟩
  ·rintro zs G _ ⟨sG,cs,rfl,pc⟩ D hD
   rw[mnl,List.take_of_length_le (by rw[List.length_zip];omega)]at pc
   have sD:=Same.new (o:=.lst (cs.map V.ref)) hD
   refine⟨D,cs,_,rfl,upd_same,Paired.mapP pc fun _ _ h=>sD _ _ h,ne,fun a z ga mz le=>?_⟩
   exact fin a z _ ga mz le (sG.trans sD)
end
open PySem L2 PyProof.Rows
open Hng (Ht Hang kids Met Lst mn lo mv due rowOf Tab opn)
theorem same_put{H G:Hp}{c:Addr}{o:HO}(s:Same H G)(h:H c=none):Same H (upd G c o):=fun b u e=>by
 rw[upd_ne (ne_of_none e h)]
 exact s _ _ e
theorem for_seq{K:PySem.W.Frag}{a:Addr}{xs:List V}{g:TG}{tb:TS}{D:Ends}{σ:L2.St}{H:Hp}(b:Bool)(Pv:Nat->L2.St->Hp->Prop)(h0:Pv 0 σ H)(hl:∀ i σ H,i<=xs.length->Pv i σ H->SqB b K H a xs)
  (hs:∀ i x σ H,xs[i]?=some x->Pv i σ H->g x σ H fun σ2 H2=>tb { D with nx:=Pv (i+1),ct:=Pv (i+1),bk:=D.nx } σ2 H2) (hd:∀ σ H,Pv xs.length σ H->D.nx σ H) :
  ∃ W:Nat->Nat->L2.St->Hp->Prop,(∃ m,W 0 m σ H)/\∀ i m σ H,W i m σ H ->
   ((ItB b K a).stop i H/\D.nx σ H)\/((ItB b K a).go i H/\∃ N:L2.St->Hp->Prop,(∀ σ' H',N σ' H'->∃ m',m'<m/\W (i+1) m' σ' H')/\∀ x H',(ItB b K a).yld i H x H'->g x σ H' fun σ2 H2=>tb { D with nx:=N,ct:=N,bk:=D.nx } σ2 H2):=by
 cases b
 ·exact for_list Pv h0 hl hs hd
 ·exact for_tup Pv h0 hl hs hd
theorem sqB_of{b:Bool}{K:PySem.W.Frag}{H:Hp}{a:Addr}{xs:List V}(h:H a=some (sqO b xs)):SqB b K H a xs:=by
 cases b
 ·exact SqL.of h
 ·exact SqT.of h
noncomputable def TabAt(H:Hp)(tb:Addr)(n:Nat)(R:Int->List (Option Int)):Prop:=∃ as:List Addr,as.length=n/\H tb=some (.lst (as.map V.ref))/\∀ (i:Nat) (h:i<as.length),H as[i]=some (.lst ((R i).map oI))
theorem TabAt.same{H H':Hp}{tb:Addr}{n:Nat}{R:Int->List (Option Int)}(h:TabAt H tb n R)(s:Same H H'):TabAt H' tb n R:=by
 obtain⟨as,al,h1,h2⟩:=h
 exact⟨as,al,s _ _ h1,fun i hi=>s _ _ (h2 i hi)⟩
noncomputable def NxAt(H:Hp)(nx:Addr)(ks:List (Int×Int)):Prop:=∃ ns:List Addr,H nx=some (.lst (ns.map V.ref))/\Paired (PrAt H) ns ks
theorem NxAt.same{H H':Hp}{nx:Addr}{ks:List (Int×Int)}(h:NxAt H nx ks)(s:Same H H'):NxAt H' nx ks:=by
 obtain⟨ns,h1,h2⟩:=h
 exact⟨ns,s _ _ h1,Paired.mapP h2 fun _ _ z=>s _ _ z⟩
noncomputable def spWb:Sp:=fun vs H Q _=>∃ (b:Bool) (q nx tb:Addr) (ps:List Int) (v:Int) (ks:List (Int×Int)) (n:Nat) (R:Int->List (Option Int)),vs=[.ref q,.int v,.ref nx,.ref tb]/\H q=some (sqO b (ps.map V.int))/\NxAt H nx ks/\TabAt H tb n R/\ps.length<=1000/\ks.length<=1000 /\
 (∀ x∈ks,0<=x.1/\x.1<n/\(R x.1).length=ps.length/\∀ o w,lo ps (R x.1) o w≠[])/\∀ (r:Addr) (H':Hp),H' r=some (.lst ((rowOf ps R v ks).map oI))->Same H H'->H r=none->Q (.ref r) H'
section
variable{P:Program}{w:World}{K:PySem.W.Frag}{mg:Str->Option Value}{base:Heap}
noncomputable abbrev nWb:List Str:=["posts","place","nexts","table","row","post","weights"]
theorem scWb:FnScope nWb ["posts","place","nexts","table"] (defScope sWeightsBehind):=⟨rfl,rfl,rfl,by decide +kernel,rfl,by decide +kernel,by decide +kernel⟩
theorem csWb1:CompScope ["far","heavy","posts","table","post"] [none,none,some 0,some 3,some 5] nWb (defScope sWeightsBehind) (scO [(".0",.local),("far",.local),("heavy",.local),("least_of",.globalImplicit),("post",.free),("posts",.free),("table",.free)]):=⟨rfl,by decide +kernel,by decide +kernel,by decide +kernel,rfl,capB_ok (by decide +kernel)⟩
theorem ndWb1:(["far","heavy","posts","table","post"]:List Str).Nodup:=by decide +kernel
theorem ok_wb{f gl gi:Addr}{fd dl di:FuncData}(F:Fun K "weights_behind" "weights_behind" sWeightsBehind f fd)(T:Txt mg)(GL:CalF P w K mg base 1 "least_of" ["posts","row","owner","heavy"] spLo gl dl)(GI:CalF P w K mg base 1 "is_open_to" ["posts","place","post"] spIo gi di):FnOk P w K mg base CX0 2 f fd ["posts","place","nexts","table"] spWb:=by
 refine F.ok scWb (fun vs H Q E h=>?_) (fun cdv A outer s H vs Q E hr h=>?_)
 ·obtain⟨b,q,nx,tb,ps,v,ks,n,R,rfl,_⟩:=h
  rfl
 ·obtain⟨b,q,nx,tb,ps,v,ks,n,R,rfl,gq,NX,TA,pl,kl,ok,fin⟩:=h
  have hr1:Room 1 _:=hr
  refine⟨_,(pss_cons (ps_set (i:=4) scWb.nd rfl (Or.inl rfl) (@pe_lst _ _ _ _ pa_nil))
   (pss_cons (ps_for PassesOwn.never rfl (pi_seq b (pv 0)) (pg_name (i:=5) scWb.nd rfl (Or.inr rfl))
   (pss_cons (ps_comp (i:=6) scWb.nd rfl (Or.inl rfl) rfl csWb1 (pi_list (pv 2)) (fun C s H fp=>(pg_tupK K rfl (n:=2) rfl (pgs_cons (pg_name (i:=0) ndWb1 rfl (Or.inl rfl)) (pgs_cons (pg_name (i:=1) ndWb1 rfl (Or.inl rfl)) pgs_nil)) rfl rfl)) (fun C s H fp=>pf_nil) (fun C s H fp=>(@pe_ix _ _ _ _ _ _ _ ix_tupH (pe_call GL.ok hr1 rfl GL.mg GL.kp GL.bd .nil pass0 (@pa_nam _ _ _ _ _ _ (pv 2) (@pa_sub _ _ _ _ _ _ _ (@pe_ix _ _ _ _ _ _ _ ix_listH (pv 3) (pv 0) (fun _ _=>rfl)) (@pa_nam _ _ _ _ _ _ (pv 4) (@pa_nam _ _ _ _ _ _ (pv 1) pa_nil))))) pe_int (fun _ _=>rfl))))
   (pss_one (ps_expr (pe_bmH PySem.F.slot_list_append PySem.F.type_list_append mt_append (pv 4) (@pa_ife _ _ _ _ _ _ _ _ (pe_ifExp (pt_val (pe_call GI.ok hr1 rfl GI.mg GI.kp GI.bd .nil pass0 (@pa_nam _ _ _ _ _ _ (pv 0) (@pa_nam _ _ _ _ _ _ (pv 1) (@pa_nam _ _ _ _ _ _ (pv 5) pa_nil))))) (pe_callB (call_sumH rfl) (by rfl) T.sum boot_sum (@pa_nam _ _ _ _ _ _ (pv 6) pa_nil)) pe_non) pa_nil))))))
   (pss_one (ps_ret (pv 4))))),?_⟩
  obtain⟨ns,gn,pn⟩:=id NX
  have nl:=pn.length
  obtain⟨as,al,gt,gr⟩:=id TA
  have rwl:(rowOf ps R v ks).length=ps.length:=by unfold rowOf;rw[List.length_map]
  refine⟨(by show 0<=sizeLine;decide),fun rw_ hrw=>?_⟩
  refine⟨_,rfl,q,rfl,⟨_,sqB_of (Same.new (o:=.lst []) hrw _ _ gq)⟩,?_⟩
  refine for_seq (K:=K) (a:=q) (xs:=ps.map V.int) b (fun j σ G=>∃ (v5 v6:Option V),σ=[some (.ref q),some (.int v),some (.ref nx),some (.ref tb),some (.ref rw_),v5,v6]/\Same H G/\G rw_=some (.lst (((rowOf ps R v ks).take j).map oI))) ⟨_,_,rfl,Same.new hrw,upd_same⟩ (fun j σ G _ z=>by obtain⟨_,_,_,s,_⟩:=z;exact sqB_of (s _ _ gq)) ?_ ?_
  ·rintro j x σ G hx ⟨v5,v6,rfl,sG,grw⟩
   obtain⟨jl,ex⟩:=List.getElem?_eq_some_iff.mp hx
   rw[List.length_map]at jl
   rw[List.getElem_map]at ex
   subst ex
   have tk:(rowOf ps R v ks).take (j+1)=(rowOf ps R v ks).take j++[if opn ps v ps[j]then some (due ps R ks ps[j])else none]:=by
    rw[List.take_succ_eq_append_getElem (by rw[rwl];exact jl)]
    congr 2
    unfold rowOf
    rw[List.getElem_map]
   rw[tk]
   generalize ps[j]=p at *
   refine⟨_,rfl,nx,rfl,⟨_,SqL.of (sG _ _ gn)⟩,?_⟩
   refine comp_list (K:=K) (a:=nx) (xs:=ns.map V.ref) (fun i zs G2=>Same G G2/\zs=((ks.take i).map fun x=>mv ps (R x.1) p x.2).map V.int) (by rw[List.length_map,sizeLine_eq];omega) ⟨Same.refl _,rfl⟩ (fun i zs G2 _ z=>SqL.of (z.1 _ _ (sG _ _ gn))) ?_ ?_
   ·rintro i x zs G2 hx ⟨s2,rfl⟩
    obtain⟨il,ex⟩:=List.getElem?_eq_some_iff.mp hx
    rw[List.length_map]at il
    rw[List.getElem_map]at ex
    subst ex
    have ik:i<ks.length:=by omega
    have sH2:=sG.trans s2
    have gx:=sH2 _ _ (Paired.at pn i il ik)
    obtain⟨o1,o2,o3,o4⟩:=ok _ (List.getElem_mem ik)
    rw[List.take_succ_eq_append_getElem ik,List.map_append,List.map_append]
    generalize ks[i]=y at *
    generalize ns[i]=na at *
    have yl:y.1.toNat<as.length:=by omega
    have ge:atI (as.map V.ref) y.1=some (V.ref as[y.1.toNat]):=by
     have e:y.1=((y.1.toNat:Nat):Int):=by omega
     have:=atI_nat (xs:=as.map V.ref) (j:=y.1.toNat) (v:=V.ref as[y.1.toNat]) (by rw[List.getElem?_map,List.getElem?_eq_getElem yl];rfl)
     rw[<- e]at this
     exact this
    have gy:=sH2 _ _ (gr _ yl)
    rw[show((y.1.toNat:Nat):Int)=y.1 by omega]at gy
    refine⟨na,_,rfl,SqT.of gx,rfl,_,_,rfl,_,_,rfl,rfl,⟨rfl,rfl,rfl,trivial⟩,?_⟩
    refine⟨_,rfl,_,rfl,_,rfl,tb,_,_,_,rfl,rfl,sH2 _ _ gt,ge,_,rfl,_,rfl,b,q,_,ps,R y.1,p,y.2,rfl,sH2 _ _ gq,gy,pl,o3,o4 _ _,fun a z H' pa m le s'=>?_⟩
    refine⟨a,_,_,_,rfl,rfl,pa,atI_nat (j:=0) rfl,s2.trans s',?_⟩
    rw[lo_mv m le]
    rfl
   ·rintro zs G2 _ ⟨s2,rfl⟩ D hD
    rw[List.length_map,nl,List.take_length]
    have sD:=Same.new (o:=.lst ((ks.map fun x=>mv ps (R x.1) p x.2).map V.int)) hD
    have sH3:=sG.trans (s2.trans sD)
    have gD:(upd G2 D (.lst ((ks.map fun x=>mv ps (R x.1) p x.2).map V.int))) D=some (.lst ((ks.map fun x=>mv ps (R x.1) p x.2).map V.int)):=upd_same
    have grw3:=(s2.trans sD) _ _ grw
    generalize (upd G2 D (.lst ((ks.map fun x=>mv ps (R x.1) p x.2).map V.int)))=G3 at gD sH3 grw3
    refine⟨_,rfl,⟨rw_,_,rfl,grw3⟩,_,rfl,_,rfl,_,rfl,b,q,ps,v,p,rfl,sH3 _ _ gq,fun G4 s4=>⟨_,rfl,?_⟩⟩
    have grw4:=s4 _ _ grw3
    have last:∀ r:Option Int,((rowOf ps R v ks).take j).length<sizeLine->Same H (upd G4 rw_ (.lst (((rowOf ps R v ks).take j).map oI++[oI r])))/\(upd G4 rw_ (.lst (((rowOf ps R v ks).take j).map oI++[oI r]))) rw_=some (.lst (((rowOf ps R v ks).take j++[r]).map oI)):=fun r _=>⟨same_put (sH3.trans s4) hrw,by rw[upd_same,List.map_append];rfl⟩
    have lt:((rowOf ps R v ks).take j).length<sizeLine:=by rw[List.length_take,rwl,sizeLine_eq];omega
    by_cases z:opn ps v p
    ·rw[decide_eq_true z,if_pos z]
     refine iteT ⟨_,rfl,D,_,rfl,s4 _ _ gD,rw_,_,_,rfl,rfl,grw4,by rw[List.length_map];exact lt,?_⟩
     exact⟨_,_,rfl,last (some (due ps R ks p)) lt⟩
    ·rw[decide_eq_false z,if_neg z]
     refine iteF ⟨rw_,_,_,rfl,rfl,grw4,by rw[List.length_map];exact lt,?_⟩
     exact⟨_,_,rfl,last none lt⟩
  ·rintro σ G ⟨v5,v6,rfl,sG,grw⟩
   rw[List.length_map,<- rwl,List.take_length]at grw
   exact⟨_,rfl,fin _ _ grw sG hrw⟩
end
open PySem L2 PyProof.Rows
open Hng (Ht Hang kids Met Lst mn lo mv due rowOf Tab opn)
noncomputable def dkv(D:List Int)(ad:Int->Addr):List (Key×V):=D.map fun v=>(Sum.inl v,V.ref (ad v))
theorem dkv_val{D:List Int}{ad:Int->Addr}{v:Int}:valV (dkv D ad) (Sum.inl v)=if v∈D then some (V.ref (ad v))else none:=by
 induction D with
 |nil=>rfl
 |cons a D ih =>
  unfold valV dkv at *
  rw[List.map_cons,List.find?_cons]
  by_cases e:a=v
  ·have:decide ((Sum.inl a:Key)=Sum.inl v)=true:=decide_eq_true (by rw[e])
   rw[this,if_pos (by rw[e];exact List.mem_cons_self ..),e]
   rfl
  ·have:decide ((Sum.inl a:Key)=Sum.inl v)=false:=decide_eq_false (fun z=>e (by injection z))
   rw[this]
   show Option.map _ _=_
   rw[ih]
   by_cases z:v∈D
   ·rw[if_pos z,if_pos (List.mem_cons_of_mem _ z)]
   ·rw[if_neg z,if_neg (fun y=>by
     rcases List.mem_cons.mp y with y | y
     ·exact e y.symm
     ·exact z y)]
theorem dkv_put{D:List Int}{ad:Int->Addr}{v:Int}{a:Addr}(h:v∉D):putK (dkv D ad) (Sum.inl v) (.ref a)=dkv (D++[v]) fun u=>if u=v then a else ad u:=by
 have e:((dkv D ad).any fun x=>decide (x.1=(Sum.inl v:Key)))=false:=by
  rw[List.any_eq_false]
  intro x hx z
  obtain⟨u,hu,rfl⟩:=List.mem_map.mp hx
  have:=of_decide_eq_true z
  injection this with this
  exact h (this▸hu)
 unfold putK
 rw[e,if_neg Bool.false_ne_true]
 unfold dkv
 rw[List.map_append]
 congr 1
 ·refine List.map_congr_left fun u hu=>?_
  show _=(Sum.inl u,V.ref (if u=v then a else ad u))
  rw[if_neg (fun(z:u=v)=>h (z▸hu))]
 ·show _=[(Sum.inl v,V.ref (if v=v then a else ad v))]
  rw[if_pos rfl]
noncomputable def BhAt(G:Hp)(wl:Addr)(D:List Int)(ad:Int->Addr)(B:Int->List (Int×Int)):Prop:=∀ v∈D,ad v≠wl/\NxAt G (ad v) (B v)
theorem NxAt.to{G G':Hp}{nx c:Addr}{ks:List (Int×Int)}{o:HO}(h:NxAt G nx ks)(hc:∀ xs,G c≠some (.tup xs))(ne:nx≠c)(e:G'=upd G c o):NxAt G' nx ks:=by
 obtain⟨ns,h1,h2⟩:=h
 rw[e]
 refine⟨ns,by rw[upd_ne ne];exact h1,Paired.mapP h2 fun a z h=>?_⟩
 unfold PrAt at *
 rw[upd_ne (fun w=>hc _ (w▸h))]
 exact h
noncomputable def BeI(L:List Ht)(n:Nat)(t bs d wl:Addr)(H1:Hp)(m:Nat)(σ:L2.St)(G:Hp):Prop:=∃ (D Wt:List Int) (ad:Int->Addr) (B:Int->List (Int×Int)) (v4:Option V),m=n-D.length/\σ=[some (.ref t),some (.ref bs),some (.ref d),some (.ref wl),v4]/\Same H1 G/\G d=some (.dK (dkv D ad))/\G wl=some (.lst (Wt.map V.int))/\BhAt G wl D ad B/\Met L D Wt/\∀ v∈D,(B v).Perm (kids L v)
noncomputable def spBe:Sp:=fun vs H Q _=>∃ (t:Addr) (n:Nat) (ties:List Tie) (L:List Ht),vs=[.ref t]/\WebAt H t n ties/\(∀ x∈ties,TieOk n x)/\n<=30/\Hang n ties L /\
 ∀ (d wl:Addr) (D:List Int) (ad:Int->Addr) (B:Int->List (Int×Int)) (H':Hp),H d=none->H' d=some (.dK (dkv D ad))->BhAt H' wl D ad B->Met L D []->(∀ v∈D,(B v).Perm (kids L v))->Same H H'->Q (.ref d) H'
theorem bes_len(ties:List Tie)(p:Int):(Nar.bes ties p).length<=ties.length:=by
 unfold Nar.bes
 induction ties with
 |nil=>exact Nat.le_refl _
 |cons x ties ih =>
  rw[List.flatMap_cons,List.length_append,List.length_cons]
  have:(if x.1=p then [(x.2.1,x.2.2)]else if x.2.1=p then [(x.1,x.2.2)]else []).length<=1:=by
   split
   ·exact Nat.le_refl _
   ·split
    ·exact Nat.le_refl _
    ·exact Nat.zero_le _
  omega
section
variable{P:Program}{w:World}{K:PySem.W.Frag}{mg:Str->Option Value}{base:Heap}
noncomputable abbrev nBe:List Str:=["web","beside","behind","waiting","place"]
theorem scBe:FnScope nBe ["web"] (defScope sBehindEach):=⟨rfl,rfl,rfl,by decide +kernel,rfl,by decide +kernel,by decide +kernel⟩
theorem csBe1:CompScope ["far","weight","behind"] [none,none,some 2] nBe (defScope sBehindEach) (scO [(".0",.local),("far",.local),("weight",.local),("behind",.free)]):=⟨rfl,by decide +kernel,by decide +kernel,by decide +kernel,rfl,capB_ok (by decide +kernel)⟩
theorem ndBe1:(["far","weight","behind"]:List Str).Nodup:=by decide +kernel
theorem csBe2:CompScope ["far","weight"] [none,none] nBe (defScope sBehindEach) (scO [(".0",.local),("far",.local),("weight",.local)]):=⟨rfl,by decide +kernel,by decide +kernel,by decide +kernel,rfl,capB_ok (by decide +kernel)⟩
theorem ndBe2:(["far","weight"]:List Str).Nodup:=by decide +kernel
theorem ok_be{f gb:Addr}{fd db:FuncData}(F:Fun K "behind_each" "behind_each" sBehindEach f fd)(T:Txt mg)(GB:CalF P w K mg base 1 "beside_each" ["web"] spBes gb db):FnOk P w K mg base CX0 2 f fd ["web"] spBe:=by
 refine F.ok scBe (fun vs H Q E h=>?_) (fun cdv A outer s H vs Q E hr h=>?_)
 ·obtain⟨t,n,ties,L,rfl,_⟩:=h
  rfl
 ·obtain⟨t,n,ties,L,rfl,W,ok,n30,HG,fin⟩:=h
  have hr1:Room 1 _:=hr
  have hu:_+1<cLine:=Nat.lt_of_le_of_lt (Nat.add_le_add_left (show 1<=64 by decide) _) hr.units
  refine⟨_,(pss_cons (ps_set (i:=1) scBe.nd rfl (Or.inl rfl) (pe_call GB.ok hr1 rfl GB.mg GB.kp GB.bd .nil pass0 (@pa_nam _ _ _ _ _ _ (pv 0) pa_nil)))
   (pss_cons (ps_set (i:=2) scBe.nd rfl (Or.inr rfl) pe_dnewK)
   (pss_cons (ps_set (i:=3) scBe.nd rfl (Or.inl rfl) (@pe_lst _ _ _ _ (@pa_cst _ _ _ _ _ _ _ pe_int pa_nil)))
   (pss_cons (ps_while PassesOwn.never (pt_truth (pv 3) (fun _=>rfl)) (pss_cons (ps_set (i:=4) scBe.nd rfl (Or.inl rfl) (pe_bm0H PySem.F.slot_list_pop PySem.F.type_list_pop mt_pop (pv 3)))
   (pss_cons (ps_dput hu (pv 2) (pv 4) (pe_comp rfl csBe1 (pi_list (@pe_ix _ _ _ _ _ _ _ ix_listH (pv 1) (pv 4) (fun _ _=>rfl))) (fun C s H fp=>(pg_tupK K rfl (n:=2) rfl (pgs_cons (pg_name (i:=0) ndBe1 rfl (Or.inl rfl)) (pgs_cons (pg_name (i:=1) ndBe1 rfl (Or.inl rfl)) pgs_nil)) rfl rfl)) (fun C s H fp=>(pf_one (pt_cmp (pc_dnotin hu (pv 0) (pv 2))))) (fun C s H fp=>(@pe_tup _ _ _ _ _ (@pa_nam _ _ _ _ _ _ (pv 0) (@pa_nam _ _ _ _ _ _ (pv 1) pa_nil))))) rfl)
   (pss_one (ps_expr (pe_bmH PySem.F.slot_list_extend PySem.F.type_list_extend mt_extend (pv 3) (@pa_comp _ _ _ _ _ _ _ _ (pe_comp rfl csBe2 (pi_list (pe_dget hu (pv 2) (pv 4) (fun _ _=>rfl))) (fun C s H fp=>(pg_tupK K rfl (n:=2) rfl (pgs_cons (pg_name (i:=0) ndBe2 rfl (Or.inl rfl)) (pgs_cons (pg_name (i:=1) ndBe2 rfl (Or.inl rfl)) pgs_nil)) rfl rfl)) (fun C s H fp=>pf_nil) (fun C s H fp=>(pv 0))) pa_nil)))))))
   (pss_one (ps_ret (pv 2))))))),?_⟩
  have tl:ties.length<=120:=W.2
  refine⟨_,rfl,t,n,ties,rfl,W,ok,by omega,fun bs as0 H1 gb al BA s1=>?_⟩
  refine fun d hd=>?_
  have sd:=Same.new (o:=.dK []) hd
  refine⟨(by show 1<=sizeLine;decide),fun wl hwl=>?_⟩
  have swl:=Same.new (o:=.lst [.int 0]) hwl
  have wl0:H1 wl=none:=sd.free hwl
  have ndw:d≠wl:=fun z=>by rw[<- z,upd_same]at hwl;cases hwl
  have gd0:(upd (upd H1 d (.dK [])) wl (.lst [.int 0])) d=some (.dK (dkv [] fun _=>wl)):=by rw[upd_ne ndw];exact upd_same
  have gw0:(upd (upd H1 d (.dK [])) wl (.lst [.int 0])) wl=some (.lst (([0]:List Int).map V.int)):=upd_same
  have s01:=sd.trans swl
  generalize (upd (upd H1 d (.dK [])) wl (.lst [.int 0]))=H2 at gd0 gw0 s01
  refine⟨BeI L n t bs d wl H1,⟨_,[],[0],fun _=>wl,fun _=>[],none,rfl,rfl,s01,gd0,gw0,(fun _ h=>nomatch h),Hng.met_start L,(fun _ h=>nomatch h)⟩,?_⟩
  rintro m σ G ⟨D,Wt,ad,B,v4,rfl,rfl,sG,gd,gw,bh,M,pk⟩
  refine⟨_,rfl,_,.inl ⟨_,SqL.of gw,rfl⟩,?_⟩
  rcases List.eq_nil_or_concat Wt with rfl |⟨W',v,rfl⟩
  ·refine iteF ⟨_,rfl,fin d wl D ad B G (s1.free hd) gd bh M pk (s1.trans sG)⟩
  ·rw[List.concat_eq_append]at gw M
   have em:(!((W'++[v]).map V.int).isEmpty)=true:=by cases W' <;> rfl
   rw[List.concat_eq_append,em]
   refine iteT ?_
   obtain⟨mlen,mrg⟩:=Hng.met_len HG M
   have vm:v∈D++(W'++[v]):=List.mem_append_right _ (List.mem_append_right _ (List.mem_singleton.mpr rfl))
   obtain⟨v0,v1⟩:=mrg v vm
   have vD:v∉D:=fun z=>(List.nodup_append.mp M.nd).2.2 v z v (List.mem_append_right _ (List.mem_singleton.mpr rfl)) rfl
   have dl:D.length+(W'.length+1)<=n:=by
    rw[List.length_append,List.length_append]at mlen
    exact mlen
   have mk:=Hng.met_kids HG M
   refine⟨BeI L n t bs d wl H1 (n-(D++[v]).length),fun σ' H' h=>⟨_,by rw[List.length_append,List.length_singleton];omega,h⟩,?_⟩
   have hlast:((W'++[v]).map V.int)[((W'++[v]).map V.int).length-1]?=some (V.int v):=by simp
   refine⟨_,rfl,⟨wl,_,rfl,gw⟩,wl,_,_,rfl,rfl,gw,hlast,?_⟩
   have dr:((W'++[v]).map V.int).dropLast=W'.map V.int:=by rw[List.map_append];exact List.dropLast_concat
   rw[dr]
   have sG1:Same H1 (upd G wl (.lst (W'.map V.int))):=same_put sG wl0
   have gd1:(upd G wl (.lst (W'.map V.int))) d=some (.dK (dkv D ad)):=by rw[upd_ne ndw];exact gd
   have gw1:(upd G wl (.lst (W'.map V.int))) wl=some (.lst (W'.map V.int)):=upd_same
   have bh1:BhAt (upd G wl (.lst (W'.map V.int))) wl D ad B:=fun u hu=>⟨(bh u hu).1,(bh u hu).2.to (fun xs z=>by rw[gw]at z;cases z) (bh u hu).1 rfl⟩
   generalize (upd G wl (.lst (W'.map V.int)))=G1 at sG1 gd1 gw1 bh1
   have vl:v.toNat<as0.length:=by omega
   obtain⟨cs0,gcs,pcs⟩:=BA v.toNat vl
   have ev:v=((v.toNat:Nat):Int):=by omega
   have pcs:Paired (PrAt H1) cs0 (Nar.bes ties ((v.toNat:Nat):Int)):=pcs
   rw[<- ev]at pcs
   have ab:atI (as0.map V.ref) v=some (V.ref as0[v.toNat]):=by
    have:=atI_nat (xs:=as0.map V.ref) (j:=v.toNat) (v:=V.ref as0[v.toNat]) (by rw[List.getElem?_map,List.getElem?_eq_getElem vl];rfl)
    rw[<- ev]at this
    exact this
   have cl:=pcs.length
   have bl:=bes_len ties v
   refine⟨_,rfl,_,rfl,bs,_,_,_,rfl,rfl,sG1 _ _ gb,ab,_,rfl,⟨_,SqL.of (sG1 _ _ gcs)⟩,?_⟩
   refine comp_list (K:=K) (a:=as0[v.toNat]) (xs:=cs0.map V.ref) (fun i zs G2=>Same G1 G2/\∃ cs:List Addr,zs=cs.map V.ref/\Paired (PrAt G2) cs (((Nar.bes ties v).take i).filter fun x=>decide (x.1∉D))) (by rw[List.length_map,sizeLine_eq];omega) ⟨Same.refl _,[],rfl,.nil⟩ (fun i zs G2 _ z=>SqL.of (z.1 _ _ (sG1 _ _ gcs))) ?_ ?_
   ·rintro i x zs G2 hx ⟨s2,cs,rfl,pc⟩
    obtain⟨il,ex⟩:=List.getElem?_eq_some_iff.mp hx
    rw[List.length_map]at il
    rw[List.getElem_map]at ex
    subst ex
    have ik:i <(Nar.bes ties v).length:=by omega
    have gx:=(sG1.trans s2) _ _ (Paired.at pcs i il ik)
    rw[List.take_succ_eq_append_getElem ik,List.filter_append]
    generalize (Nar.bes ties v)[i]=y at *
    generalize cs0[i]=na at *
    refine⟨na,_,rfl,SqT.of gx,rfl,_,_,rfl,_,_,rfl,rfl,⟨rfl,trivial⟩,?_⟩
    refine⟨_,rfl,_,rfl,d,_,rfl,DGet.k (k:=Sum.inl y.1) (s2 _ _ gd1),_,rfl,?_⟩
    rw[dkv_val]
    by_cases z:y.1∈D
    ·rw[if_pos z]
     refine iteF ⟨s2,cs,rfl,?_⟩
     rw[List.filter_cons,if_neg (fun w=>(of_decide_eq_true w) z),List.filter_nil,List.append_nil]
     exact pc
    ·rw[if_neg z]
     refine iteT ⟨_,rfl,_,rfl,(by show 2<=sizeLine;decide),fun c hc=>?_⟩
     have sc:=Same.new (o:=.tup [.int y.1,.int y.2]) hc
     rw[List.filter_cons,if_pos (decide_eq_true z),List.filter_nil]
     exact⟨s2.trans sc,cs++[c],by rw[List.map_append];rfl,Paired.snoc (Paired.mapP pc fun _ _ h=>sc _ _ h) upd_same⟩
   ·rintro zs G2 _ ⟨s2,cs,rfl,pc⟩ Dl hDl
    rw[List.length_map,cl,List.take_length]at pc
    generalize eks:(Nar.bes ties v).filter (fun x=>decide (x.1∉D))=ks at pc mk
    have ksl:ks.length<=120:=by
     have:=List.length_filter_le (fun x=>decide (x.1∉D)) (Nar.bes ties v)
     rw[eks]at this
     omega
    have csl:=pc.length
    have sDl:=Same.new (o:=.lst (cs.map V.ref)) hDl
    have gd2:=sDl _ _ (s2 _ _ gd1)
    have gw2:=sDl _ _ (s2 _ _ gw1)
    have dlw:Dl≠wl:=fun z=>by rw[z,s2 _ _ gw1]at hDl;cases hDl
    have dld:Dl≠d:=fun z=>by rw[z,s2 _ _ gd1]at hDl;cases hDl
    refine⟨_,rfl,_,rfl,d,_,rfl,DPut.k (k:=Sum.inl v) gd2 (by unfold dkv;rw[List.length_map,sizeLine_eq];omega),?_⟩
    rw[dkv_put vD]
    have nx0:NxAt (upd G2 Dl (.lst (cs.map V.ref))) Dl ks:=⟨cs,upd_same,Paired.mapP pc fun _ _ h=>sDl _ _ h⟩
    have bh3:BhAt (upd (upd G2 Dl (.lst (cs.map V.ref))) d (.dK (dkv (D++[v]) fun u=>if u=v then Dl else ad u))) wl (D++[v]) (fun u=>if u=v then Dl else ad u) (fun u=>if u=v then ks else B u):=fun u hu=>by
     show(if u=v then Dl else ad u)≠wl/\NxAt _ (if u=v then Dl else ad u) (if u=v then ks else B u)
     by_cases z:u=v
     ·rw[if_pos z,if_pos z]
      exact⟨dlw,nx0.to (fun xs w=>by rw[gd2]at w;cases w) dld rfl⟩
     ·rw[if_neg z,if_neg z]
      have uD:u∈D:=by
       rcases List.mem_append.mp hu with h | h
       ·exact h
       ·exact absurd (List.mem_singleton.mp h) z
      obtain⟨b1,b2⟩:=bh1 u uD
      have b3:=b2.same (s2.trans sDl)
      refine⟨b1,b3.to (fun xs w=>by rw[gd2]at w;cases w) (fun w=>?_) rfl⟩
      obtain⟨ns,g1,_⟩:=b3
      rw[w,gd2]at g1
      cases g1
    have gw3:(upd (upd G2 Dl (.lst (cs.map V.ref))) d (.dK (dkv (D++[v]) fun u=>if u=v then Dl else ad u))) wl=some (.lst (W'.map V.int)):=by rw[upd_ne (Ne.symm ndw)];exact gw2
    have gd3:(upd (upd G2 Dl (.lst (cs.map V.ref))) d (.dK (dkv (D++[v]) fun u=>if u=v then Dl else ad u))) d=some (.dK (dkv (D++[v]) fun u=>if u=v then Dl else ad u)):=upd_same
    have sG3:Same H1 (upd (upd G2 Dl (.lst (cs.map V.ref))) d (.dK (dkv (D++[v]) fun u=>if u=v then Dl else ad u))):=same_put (sG1.trans (s2.trans sDl)) hd
    generalize (upd (upd G2 Dl (.lst (cs.map V.ref))) d (.dK (dkv (D++[v]) fun u=>if u=v then Dl else ad u)))=G3 at bh3 gw3 gd3 sG3
    have vm':v∈D++[v]:=List.mem_append_right _ (List.mem_singleton.mpr rfl)
    have nx3:NxAt G3 Dl ks:=by
     have:=(bh3 v vm').2
     have this:NxAt G3 (if v=v then Dl else ad v) (if v=v then ks else B v):=this
     rw[if_pos rfl,if_pos rfl]at this
     exact this
    obtain⟨ns,gn,pn⟩:=nx3
    have nl:=pn.length
    refine⟨_,rfl,⟨wl,_,rfl,gw3⟩,_,rfl,_,rfl,d,.ref Dl,rfl,?_,Dl,rfl,⟨_,SqL.of gn⟩,?_⟩
    ·have:=DGet.k (k:=Sum.inl v) gd3
     rw[dkv_val,if_pos vm']at this
     have this:DGet G3 d (kV (Sum.inl v)) (some (V.ref (if v=v then Dl else ad v))):=this
     rw[if_pos rfl]at this
     exact this
    refine comp_list (K:=K) (a:=Dl) (xs:=ns.map V.ref) (fun i zs G4=>Same G3 G4/\zs=((ks.take i).map (·.1)).map V.int) (by rw[List.length_map,sizeLine_eq];omega) ⟨Same.refl _,rfl⟩ (fun i zs G4 _ z=>SqL.of (z.1 _ _ gn)) ?_ ?_
    ·rintro i x zs G4 hx ⟨s4,rfl⟩
     obtain⟨il,ex⟩:=List.getElem?_eq_some_iff.mp hx
     rw[List.length_map]at il
     rw[List.getElem_map]at ex
     subst ex
     have ik:i<ks.length:=by omega
     have gx:=s4 _ _ (Paired.at pn i il ik)
     rw[List.take_succ_eq_append_getElem ik,List.map_append,List.map_append]
     generalize ks[i]=y at *
     generalize ns[i]=na at *
     exact⟨na,_,rfl,SqT.of gx,rfl,_,_,rfl,_,_,rfl,rfl,trivial,_,rfl,s4,rfl⟩
    ·rintro zs G4 _ ⟨s4,rfl⟩ D2 hD2
     rw[List.length_map,nl,List.take_length]
     have sD2:=Same.new (o:=.lst ((ks.map (·.1)).map V.int)) hD2
     have s34:=s4.trans sD2
     have gw4:=s34 _ _ gw3
     refine⟨wl,D2,_,_,rfl,rfl,gw4,upd_same,by rw[List.length_map,List.length_map,List.length_map,sizeLine_eq];omega,?_⟩
     refine⟨D++[v],W'++ks.map (·.1),fun u=>if u=v then Dl else ad u,fun u=>if u=v then ks else B u,_,rfl,rfl,same_put (sG3.trans s34) wl0,by rw[upd_ne ndw];exact s34 _ _ gd3,by rw[upd_same,List.map_append],fun u hu=>⟨(bh3 u hu).1,((bh3 u hu).2.same s34).to (fun xs z=>by rw[gw4]at z;cases z) (bh3 u hu).1 rfl⟩,Hng.met_step HG M (mk.map _),fun u hu=>?_⟩
     show(if u=v then ks else B u).Perm (kids L u)
     by_cases z:u=v
     ·rw[if_pos z,z];exact mk
     ·rw[if_neg z]
      rcases List.mem_append.mp hu with h | h
      ·exact pk u h
      ·exact absurd (List.mem_singleton.mp h) z
end
end K40
namespace Hng
section
variable{n:Nat}{ties:List Nar.Tie}{L:List Ht}{D:List Int}
theorem nd_ix(nd:D.Nodup){i j:Nat}(hi:i<D.length)(hj:j<D.length)(e:D[i]=D[j]):i=j:=(List.getElem_inj nd).mp e
theorem met_drop(H:Hang n ties L)(M:Met L D []){i:Nat}(hi:i<D.length){h:Ht}(hh:h∈L)(e:h.2.1=D[i]):∃ (j:Nat) (hj:j<D.length),i<j/\D[j]=h.1:=by
 obtain⟨nd,len,rg,z0⟩:=met_end H M
 have:=M.down h hh (by rw[e];exact List.getElem_mem hi)
 rw[List.append_nil]at this
 obtain⟨j,hj,ej⟩:=List.getElem_of_mem this
 refine⟨j,hj,?_,ej⟩
 rcases M.up j hj with y |⟨g,hg,eg,u⟩
 ·exact absurd (by rw[<- ej,y]) (H.ne hh).1
 ·rw[H.one hg hh (by rw[eg,ej]),e]at u
  obtain⟨k,hk,ek⟩:=List.getElem_of_mem u
  rw[List.length_take]at hk
  rw[List.getElem_take]at ek
  have:=nd_ix nd (by omega) hi ek
  omega
theorem row_congr{ps:List Int}{R R':Int->List (Option Int)}{v:Int}{ks:List (Int×Int)}(h:∀ x∈ks,R x.1=R' x.1):rowOf ps R v ks=rowOf ps R' v ks:=by
 unfold rowOf due
 refine List.map_congr_left fun q _=>?_
 have:(ks.map fun x=>mv ps (R x.1) q x.2)=ks.map fun x=>mv ps (R' x.1) q x.2:=List.map_congr_left fun x hx=>by rw[h x hx]
 rw[this]
theorem kid_of{v:Int}{x:Int×Int}(h:x∈kids L v):∃ g∈L,g.2.1=v/\g.1=x.1/\g.2.2=x.2:=by
 obtain⟨g,hg,rfl⟩:=List.mem_map.mp h
 obtain⟨hg,e⟩:=List.mem_filter.mp hg
 exact⟨g,hg,of_decide_eq_true e,rfl,rfl⟩
noncomputable def Told(ps:List Int)(L:List Ht)(D:List Int)(R:Int->List (Option Int))(k:Nat):Prop:=∀ (j:Nat) (hj:j<D.length),k<=j->R D[j]=rowOf ps R D[j] (kids L D[j])
theorem told_step{ps:List Int}{R:Int->List (Option Int)}{k:Nat}(H:Hang n ties L)(M:Met L D [])(hk:k<D.length)(T:Told ps L D R (k+1)){ks:List (Int×Int)}(p:ks.Perm (kids L D[k])) :
  Told ps L D (fun u=>if u=D[k]then rowOf ps R D[k] ks else R u) k:=by
 obtain⟨nd,len,rg,z0⟩:=met_end H M
 have other:∀ (j:Nat) (hj:j<D.length),k<=j->∀ x∈kids L D[j],R x.1=(fun u=>if u=D[k]then rowOf ps R D[k] ks else R u) x.1:=fun j hj kj x hx=>by
  obtain⟨g,hg,e1,e2,_⟩:=kid_of hx
  obtain⟨i,hi,lt,ei⟩:=met_drop H M hj hg e1
  show R x.1=if x.1=D[k]then _ else R x.1
  rw[if_neg (fun z=>by
   have:=nd_ix nd hi hk (by rw[ei,e2,z])
   omega)]
 intro j hj kj
 show(if D[j]=D[k]then rowOf ps R D[k] ks else R D[j])=_
 by_cases z:D[j]=D[k]
 ·obtain rfl:=nd_ix nd hj hk z
  rw[if_pos rfl]
  exact(row_perm p).trans (row_congr (other j hj kj))
 ·rw[if_neg z,T j hj (by
   have:j≠k:=fun y=>z (by subst y;rfl)
   omega)]
  exact row_congr (other j hj kj)
theorem told_tab{ps:List Int}{R:Int->List (Option Int)}(H:Hang n ties L)(M:Met L D [])(T:Told ps L D R 0):Tab n ps L R:=fun v v0 v1=>by
 obtain⟨nd,len,rg,z0⟩:=met_end H M
 have:=nd_all nd rg len v0 v1
 obtain⟨j,hj,rfl⟩:=List.getElem_of_mem this
 exact T j hj (Nat.zero_le _)
theorem told_ok{ps:List Int}{R:Int->List (Option Int)}{k:Nat}(H:Hang n ties L)(M:Met L D [])(hk:k<D.length)(T:Told ps L D R (k+1))(ne:ps≠[]){ks:List (Int×Int)}(p:ks.Perm (kids L D[k])) :
  ∀ x∈ks,0<=x.1/\x.1<n/\(R x.1).length=ps.length/\∀ o w,lo ps (R x.1) o w≠[]:=fun x hx=>by
 obtain⟨nd,len,rg,z0⟩:=met_end H M
 obtain⟨g,hg,e1,e2,_⟩:=kid_of (p.mem_iff.mp hx)
 obtain⟨i,hi,lt,ei⟩:=met_drop H M hk hg e1
 have r:=rg _ (List.getElem_mem hi)
 have t:=T i hi lt
 rw[ei,e2]at r t
 refine⟨r.1,r.2,by rw[t];unfold rowOf;rw[List.length_map],fun o w=>?_⟩
 rw[t]
 exact lo_ne ne
end
end Hng
namespace K40
open PySem L2 PyProof.Rows
open Hng (Ht Hang kids Met Lst mn lo mv due rowOf Tab opn Told)
theorem nd_set{as:List Addr}{r:Addr}{k:Nat}(nd:as.Nodup)(h:r∉as):(as.set k r).Nodup:=by
 induction as generalizing k with
 |nil=>exact nd
 |cons a as ih =>
  rw[List.nodup_cons]at nd
  cases k with
  |zero =>
   show(r :: as).Nodup
   exact List.nodup_cons.mpr ⟨fun z=>h (List.mem_cons_of_mem _ z),nd.2⟩
  |succ k =>
   show(a :: as.set k r).Nodup
   refine List.nodup_cons.mpr ⟨fun z=>?_,ih nd.2 fun z=>h (List.mem_cons_of_mem _ z)⟩
   rcases List.mem_or_eq_of_mem_set z with z | z
   ·exact nd.1 z
   ·exact h (z▸List.mem_cons_self ..)
noncomputable def TabN(H0 H:Hp)(tb:Addr)(n:Nat)(R:Int->List (Option Int)):Prop:=∃ as:List Addr,as.length=n/\H tb=some (.lst (as.map V.ref))/\(as.Nodup/\∀ a∈as,a≠tb/\H0 a=none)/\∀ (i:Nat) (h:i<as.length),H as[i]=some (.lst ((R i).map oI))
theorem TabN.tab{H0 H:Hp}{tb:Addr}{n:Nat}{R:Int->List (Option Int)}(h:TabN H0 H tb n R):TabAt H tb n R:=by
 obtain⟨as,al,h1,_,h2⟩:=h
 exact⟨as,al,h1,h2⟩
noncomputable def rIxQ:Bool->R2
 |false=>rIxLh
 |true=>rIxTh
theorem ix_Q{X:Cx}:∀ b:Bool,IxR X (rIxQ b)
 |false=>ix_listH
 |true=>ix_tupH
theorem rIxQ_of{b:Bool}{r:PySem.Addr}{xs:List V}{i:Int}{v:V}{H:Hp}{Q:VK}(h:H r=some (sqO b xs))(e:atI xs i=some v)(q:Q v H):rIxQ b (.ref r) (.int i) H Q:=by
 cases b
 ·exact⟨r,xs,i,v,rfl,rfl,h,e,q⟩
 ·exact⟨r,xs,i,v,rfl,rfl,h,e,q⟩
theorem ixN_nn{m:Nat}{k:Int}(k0:0<=k)(k1:k<m):ixN m k=some k.toNat:=by
 unfold ixN
 rw[if_pos k0,if_pos k1]
theorem atI_nn{as:List Addr}{k:Int}(k0:0<=k)(k1:k.toNat<as.length):atI (as.map V.ref) k=some (V.ref as[k.toNat]):=by
 have e:k=((k.toNat:Nat):Int):=by omega
 have:=atI_nat (xs:=as.map V.ref) (j:=k.toNat) (v:=V.ref as[k.toNat]) (by rw[List.getElem?_map,List.getElem?_eq_getElem k1];rfl)
 rw[<- e]at this
 exact this
theorem atI_ni{as:List Int}{k:Int}(k0:0<=k)(k1:k.toNat<as.length):atI (as.map V.int) k=some (V.int as[k.toNat]):=by
 have e:k=((k.toNat:Nat):Int):=by omega
 have:=atI_nat (xs:=as.map V.int) (j:=k.toNat) (v:=V.int as[k.toNat]) (by rw[List.getElem?_map,List.getElem?_eq_getElem k1];rfl)
 rw[<- e]at this
 exact this
theorem TabAt.row{H:Hp}{tb:Addr}{n:Nat}{R:Int->List (Option Int)}(h:TabAt H tb n R){k:Int}(k0:0<=k)(k1:k<n):∃ (as:List Addr) (a:Addr),H tb=some (.lst (as.map V.ref))/\atI (as.map V.ref) k=some (V.ref a)/\H a=some (.lst ((R k).map oI)):=by
 obtain⟨as,al,h1,h2⟩:=h
 have kl:k.toNat<as.length:=by omega
 have:=h2 _ kl
 rw[show((k.toNat:Nat):Int)=k by omega]at this
 exact⟨as,_,h1,atI_nn k0 kl,this⟩
theorem TabN.same{H0 H H':Hp}{tb:Addr}{n:Nat}{R:Int->List (Option Int)}(h:TabN H0 H tb n R)(s:Same H H'):TabN H0 H' tb n R:=by
 obtain⟨as,a1,a2,a3,a4⟩:=h
 exact⟨as,a1,s _ _ a2,a3,fun i hi=>s _ _ (a4 i hi)⟩
theorem TabN.put{H0 G0 G:Hp}{tb r:Addr}{n:Nat}{R:Int->List (Option Int)}{v:Int}{row:List (Option Int)}(h:TabN H0 G0 tb n R)(s:Same G0 G)(v0:0<=v)(v1:v<n)(hr:G r=some (.lst (row.map oI)))(fr:G0 r=none)(f0:H0 r=none) :
  ∃ xs:List V,G tb=some (.lst xs)/\ixN xs.length v=some v.toNat/\TabN H0 (upd G tb (.lst (xs.set v.toNat (.ref r)))) tb n (fun u=>if u=v then row else R u):=by
 obtain⟨as,al,h1',⟨nd,h2⟩,h3'⟩:=h
 have ne:r≠tb:=fun z=>by rw[z,h1']at fr;cases fr
 have rn:r∉as:=fun z=>by
  obtain⟨k,hk,ek⟩:=List.getElem_of_mem z
  have:=h3' k hk
  rw[ek,fr]at this
  cases this
 have h1:=s _ _ h1'
 have h3:∀ (i:Nat) (h:i<as.length),G as[i]=some (.lst ((R i).map oI)):=fun i hi=>s _ _ (h3' i hi)
 refine⟨_,h1,ixN_nn v0 (by rw[List.length_map,al];exact v1),as.set v.toNat r,by rw[List.length_set];exact al,by rw[upd_same,List.map_set],⟨?_,fun a ha=>?_⟩,fun i hi=>?_⟩
 ·exact nd_set nd rn
 ·rcases List.mem_or_eq_of_mem_set ha with h | h
  ·exact h2 a h
  ·rw[h];exact⟨ne,f0⟩
 ·rw[List.length_set]at hi
  rw[List.getElem_set]
  show _=some (HO.lst ((if(i:Int)=v then row else R i).map oI))
  by_cases z:v.toNat=i
  ·rw[if_pos z,if_pos (by omega),upd_ne ne]
   exact hr
  ·rw[if_neg z,if_neg (by omega),upd_ne (h2 _ (List.getElem_mem hi)).1]
   exact h3 i hi
theorem tabN_to{H0 G:Hp}{tb c:Addr}{n:Nat}{R:Int->List (Option Int)}{o:HO}(h:TabN H0 G tb n R)(hc:∀ xs,G c≠some (.lst xs)):TabN H0 (upd G c o) tb n R:=by
 obtain⟨as,al,h1,h0,h2⟩:=h
 refine⟨as,al,by rw[upd_ne (fun z=>hc _ (z▸h1))];exact h1,h0,fun i hi=>?_⟩
 rw[upd_ne (fun z=>hc _ (z▸h2 i hi))]
 exact h2 i hi
noncomputable def Gd(ps:List Int)(R:Int->List (Option Int))(os:List Int)(h:Ht):Prop:=∃ x:Int,(x,os.getD h.1.toNat 0)∈lo ps (R h.1) (os.getD h.2.1.toNat 0) h.2.2/\∀ y∈lo ps (R h.1) (os.getD h.2.1.toNat 0) h.2.2,¬ ltP y (x,os.getD h.1.toNat 0)
theorem getD_set_ne{os:List Int}{i k:Nat}{o:Int}(h:i≠k):(os.set k o).getD i 0=os.getD i 0:=by
 rw[List.getD_eq_getElem?_getD,List.getD_eq_getElem?_getD,List.getElem?_set_ne (Ne.symm h)]
theorem getD_set_eq{os:List Int}{k:Nat}{o:Int}(h:k<os.length):(os.set k o).getD k 0=o:=by
 rw[List.getD_eq_getElem?_getD,List.getElem?_set_self h]
 rfl
theorem Gd.set{ps:List Int}{R:Int->List (Option Int)}{os:List Int}{h:Ht}{k:Nat}{o:Int}(g:Gd ps R os h)(h1:h.1.toNat≠k)(h2:h.2.1.toNat≠k):Gd ps R (os.set k o) h:=by
 unfold Gd at *
 rw[getD_set_ne h1,getD_set_ne h2]
 exact g
structure Own(n:Nat)(ps:List Int)(L:List Ht)(R:Int->List (Option Int))(os:List Int)(z:Int):Prop where
 len:os.length=n
 root:(z,os.getD 0 0)∈lo ps (R 0) (ps.getD 0 0) 0/\∀ y∈lo ps (R 0) (ps.getD 0 0) 0,¬ ltP y (z,os.getD 0 0)
 each:∀ h∈L,Gd ps R os h
noncomputable def spLt:Sp:=fun vs H Q _=>∃ (b:Bool) (t q:Addr) (n:Nat) (ties:List Tie) (ps:List Int) (L:List Ht),vs=[.ref t,.ref q]/\WebAt H t n ties/\(∀ x∈ties,TieOk n x)/\n<=30/\Hang n ties L/\H q=some (sqO b (ps.map V.int))/\ps≠[]/\ps.length<=1000 /\
 ∀ (r ow tb:Addr) (z:Int) (os:List Int) (R:Int->List (Option Int)) (H':Hp),H' r=some (.tup [.int z,.ref ow,.ref tb])->H' ow=some (.tup (os.map V.int))->TabN H H' tb n R->H tb=none->Tab n ps L R->z=mv ps (R 0) (ps.getD 0 0) 0->Own n ps L R os z->Same H H'->Q (.ref r) H'
section
variable{P:Program}{w:World}{K:PySem.W.Frag}{mg:Str->Option Value}{base:Heap}
noncomputable abbrev nLt:List Str:=["web","posts","behind","table","place","weight","first","owners","nexts","far","heavy"]
theorem scLt:FnScope nLt ["web","posts"] (defScope sLeastOnTree):=⟨rfl,rfl,rfl,by decide +kernel,rfl,by decide +kernel,by decide +kernel⟩
theorem csLt1:CompScope ["place"] [none] nLt (defScope sLeastOnTree) (scO [(".0",.local),("place",.local)]):=⟨rfl,by decide +kernel,by decide +kernel,by decide +kernel,rfl,capB_ok (by decide +kernel)⟩
theorem ndLt1:(["place"]:List Str).Nodup:=by decide +kernel
theorem csLt2:CompScope ["place","first"] [none,some 6] nLt (defScope sLeastOnTree) (scO [(".0",.local),("place",.local),("first",.free)]):=⟨rfl,by decide +kernel,by decide +kernel,by decide +kernel,rfl,capB_ok (by decide +kernel)⟩
theorem ndLt2:(["place","first"]:List Str).Nodup:=by decide +kernel
theorem ok_lt{f gb gw gl:Addr}{fd db dw dl:FuncData}(F:Fun K "least_on_tree" "least_on_tree" sLeastOnTree f fd)(T:Txt mg)(TR:mg "reversed" = none)(GB:CalF P w K mg base 2 "behind_each" ["web"] spBe gb db)(GW:CalF P w K mg base 2 "weights_behind" ["posts","place","nexts","table"] spWb gw dw)(GL:CalF P w K mg base 1 "least_of" ["posts","row","owner","heavy"] spLo gl dl):FnOk P w K mg base CX0 3 f fd ["web","posts"] spLt:=by
 refine F.ok scLt (fun vs H Q E h=>?_) (fun cdv A outer s H vs Q E hr h=>?_)
 ·obtain⟨b,t,q,n,ties,ps,L,rfl,_⟩:=h
  rfl
 ·obtain⟨b,t,q,n,ties,ps,L,rfl,W,ok,n30,HG,gq,pne,pl,fin⟩:=h
  have hr2:Room 2 _:=hr
  have hr1:Room 1 _:=hr.mono (by decide)
  have hu:_+1<cLine:=Nat.lt_of_le_of_lt (Nat.add_le_add_left (show 1<=64 by decide) _) hr.units
  have n1:=HG.n1
  refine⟨_,(pss_cons (ps_set (i:=2) scLt.nd rfl (Or.inl rfl) (pe_call GB.ok hr2 rfl GB.mg GB.kp GB.bd .nil pass0 (@pa_nam _ _ _ _ _ _ (pv 0) pa_nil)))
   (pss_cons (ps_comp (i:=3) scLt.nd rfl (Or.inl rfl) rfl csLt1 (pi_range1 rfl T.range (@pa_sub _ _ _ _ _ _ _ (@pe_ix _ _ _ _ _ _ _ ix_tupH (pv 0) pe_int (fun _ _=>rfl)) pa_nil)) (fun C s H fp=>(pg_name (i:=0) ndLt1 rfl (Or.inl rfl))) (fun C s H fp=>pf_nil) (fun C s H fp=>(@pe_lst _ _ _ _ pa_nil)))
   (pss_cons (ps_for PassesOwn.never rfl (pi_rev (by rfl) TR (@pa_call _ _ _ _ _ _ _ _ (pe_callTy (call_listK rfl) (by rfl) T.list boot_list (@pa_nam _ _ _ _ _ _ (pv 2) pa_nil)) pa_nil)) (pg_name (i:=4) scLt.nd rfl (Or.inl rfl))
   (pss_one (ps_asg (pe_call GW.ok hr2 rfl GW.mg GW.kp GW.bd .nil pass0 (@pa_nam _ _ _ _ _ _ (pv 1) (@pa_nam _ _ _ _ _ _ (pv 4) (@pa_sub _ _ _ _ _ _ _ (pe_dget hu (pv 2) (pv 4) (fun _ _=>rfl)) (@pa_nam _ _ _ _ _ _ (pv 3) pa_nil))))) (pg_sub (pv 3) (pv 4) set_list))))
   (pss_cons (ps_asg (pe_call GL.ok hr1 rfl GL.mg GL.kp GL.bd .nil pass0 (@pa_nam _ _ _ _ _ _ (pv 1) (@pa_sub _ _ _ _ _ _ _ (@pe_ix _ _ _ _ _ _ _ ix_listH (pv 3) pe_int (fun _ _=>rfl)) (@pa_sub _ _ _ _ _ _ _ (@pe_ix _ _ _ _ _ _ _ (ix_Q b) (pv 1) pe_int (fun _ _=>rfl)) (@pa_cst _ _ _ _ _ _ _ pe_int pa_nil))))) (pg_tup (n:=2) rfl (pgs_cons (pg_name (i:=5) scLt.nd rfl (Or.inl rfl)) (pgs_cons (pg_name (i:=6) scLt.nd rfl (Or.inr rfl)) pgs_nil))))
   (pss_cons (ps_comp (i:=7) scLt.nd rfl (Or.inl rfl) rfl csLt2 (pi_range1 rfl T.range (@pa_sub _ _ _ _ _ _ _ (@pe_ix _ _ _ _ _ _ _ ix_tupH (pv 0) pe_int (fun _ _=>rfl)) pa_nil)) (fun C s H fp=>(pg_name (i:=0) ndLt2 rfl (Or.inl rfl))) (fun C s H fp=>pf_nil) (fun C s H fp=>(pv 1)))
   (pss_cons (ps_for PassesOwn.never rfl (pi_items (pv 2)) (pg_tup (n:=2) rfl (pgs_cons (pg_name (i:=4) scLt.nd rfl (Or.inl rfl)) (pgs_cons (pg_name (i:=8) scLt.nd rfl (Or.inl rfl)) pgs_nil)))
   (pss_one (ps_for PassesOwn.never rfl (pi_list (pv 8)) (pg_tup (n:=2) rfl (pgs_cons (pg_name (i:=9) scLt.nd rfl (Or.inl rfl)) (pgs_cons (pg_name (i:=10) scLt.nd rfl (Or.inl rfl)) pgs_nil)))
   (pss_one (ps_asg (@pe_ix _ _ _ _ _ _ _ ix_tupH (pe_call GL.ok hr1 rfl GL.mg GL.kp GL.bd .nil pass0 (@pa_nam _ _ _ _ _ _ (pv 1) (@pa_sub _ _ _ _ _ _ _ (@pe_ix _ _ _ _ _ _ _ ix_listH (pv 3) (pv 9) (fun _ _=>rfl)) (@pa_sub _ _ _ _ _ _ _ (@pe_ix _ _ _ _ _ _ _ ix_listH (pv 7) (pv 4) (fun _ _=>rfl)) (@pa_nam _ _ _ _ _ _ (pv 10) pa_nil))))) pe_int (fun _ _=>rfl)) (pg_sub (pv 7) (pv 9) set_list))))))
   (pss_one (ps_ret (@pe_tup _ _ _ _ _ (@pa_nam _ _ _ _ _ _ (pv 5) (@pa_call _ _ _ _ _ _ _ _ (pe_callTy call_tupleH (by rfl) T.tuple boot_tuple (@pa_nam _ _ _ _ _ _ (pv 7) pa_nil)) (@pa_nam _ _ _ _ _ _ (pv 3) pa_nil)))))))))))),?_⟩
  obtain⟨⟨ts,was,w1,w2,w3⟩,tl⟩:=id W
  refine⟨_,rfl,t,n,ties,L,rfl,W,ok,n30,HG,fun d wl D ad B H1 hd gd bh M pk s1=>?_⟩
  obtain⟨Dn,Dl,Drg,D0⟩:=Hng.met_end HG M
  refine⟨_,rfl,t,_,_,_,rfl,rfl,s1 _ _ w1,atI_nat (j:=0) rfl,_,rfl,by omega,by omega,?_⟩
  rw[show((n:Int)).toNat=n by omega]
  refine comp_range (lo:=0) (n:=n) (fun i zs G=>Same H1 G/\∃ as:List Addr,zs=as.map V.ref/\as.length=i/\(as.Nodup/\∀ a∈as,H a=none)/\∀ a∈as,G a=some (.lst [])) (by rw[sizeLine_eq];omega) ⟨Same.refl _,[],rfl,rfl,⟨List.Pairwise.nil,(fun _ h=>nomatch h)⟩,(fun _ h=>nomatch h)⟩ ?_ ?_
  ·rintro i zs G hi ⟨sG,as,rfl,al,⟨and_,aH⟩,ga⟩
   refine⟨trivial,tTru_if ⟨(by show 0<=sizeLine;decide),fun c hc=>?_⟩⟩
   have sc:=Same.new (o:=.lst []) hc
   refine⟨sG.trans sc,as++[c],by rw[List.map_append];rfl,by rw[List.length_append,al];rfl,⟨List.nodup_append.mpr ⟨and_,List.pairwise_singleton _ _,fun a ha b hb e=>?_⟩,fun a ha=>?_⟩,fun a ha=>?_⟩
   ·have hb:b=c:=by simpa using hb
    have:=ga a ha
    rw[e,hb,hc]at this
    cases this
   ·rcases List.mem_append.mp ha with h | h
    ·exact aH a h
    ·rw[List.mem_singleton.mp h];exact(s1.trans sG).free hc
   rcases List.mem_append.mp ha with h | h
   ·exact sc _ _ (ga a h)
   ·rw[List.mem_singleton.mp h];exact upd_same
  rintro zs H2 _ ⟨s2,as,rfl,al,⟨and_,aH⟩,ga⟩ tb htb
  have stb:=Same.new (o:=.lst (as.map V.ref)) htb
  have TN0:TabN H (upd H2 tb (.lst (as.map V.ref))) tb n (fun _=>[]):=⟨as,al,upd_same,⟨and_,fun a ha=>⟨fun z=>(by have:=ga a ha;rw[z,htb]at this;cases this),aH a ha⟩⟩,fun i hi=>stb _ _ (ga _ (List.getElem_mem hi))⟩
  have sH2:Same H H2:=s1.trans s2
  have gd2:=s2 _ _ gd
  have nx2:∀ v∈D,NxAt H2 (ad v) (B v):=fun v hv=>(bh v hv).2.same s2
  have kl:∀ v∈D,(B v).length<=1000:=fun v hv=>by
   rw[(pk v hv).length_eq]
   unfold kids
   rw[List.length_map]
   have:=List.length_filter_le (fun h=>decide (h.2.1=v)) L
   have:=HG.len
   omega
  have keys:(dkv D ad).map (·.1)=D.map Sum.inl:=by
   unfold dkv
   rw[List.map_map]
   rfl
  refine⟨_,rfl,d,_,D,rfl,stb _ _ gd2,keys,fun l hl=>⟨l,_,rfl,SqL.of upd_same,?_⟩⟩
  have sl:=Same.new (o:=.lst (D.map V.int)) hl
  have ltb:l≠tb:=fun z=>by rw[z,upd_same]at hl;cases hl
  have l2:H2 l=none:=stb.free hl
  refine for_rev (K:=K) (a:=l) (xs:=D.map V.int) (fun i σ G=>∃ (R:Int->List (Option Int)) (v4:Option V),σ=[some (.ref t),some (.ref q),some (.ref d),some (.ref tb),v4,none,none,none,none,none,none]/\Same H2 G/\G l=some (.lst (D.map V.int))/\TabN H G tb n R/\Told ps L D R (n-i)) ⟨fun _=>[],none,rfl,stb.trans sl,upd_same,?_,fun j hj hle=>?_⟩ (fun i σ G _ z=>by obtain⟨_,_,_,_,g,_⟩:=z;exact SqL.of g) ?_ ?_
  ·exact TN0.same sl
  ·omega
  ·rintro i x σ G hx ⟨R,v4,rfl,sG,gl,TN,TD⟩
   obtain⟨il,ex⟩:=List.getElem?_eq_some_iff.mp hx
   rw[List.length_reverse,List.length_map]at il
   rw[List.getElem_reverse,List.getElem_map]at ex
   have kD:D.length-1-i<D.length:=by omega
   have ex:V.int D[D.length-1-i]=x:=by
    rw[<- ex]
    congr 2
    rw[List.length_map]
   subst ex
   have ek:n-i=(D.length-1-i)+1:=by omega
   rw[ek]at TD
   have pkv:=pk _ (List.getElem_mem kD)
   have okv:=Hng.told_ok HG M kD TD pne pkv
   have stp:=Hng.told_step HG M kD TD pkv
   have vm:=List.getElem_mem kD
   obtain⟨v0,v1⟩:=Drg _ vm
   rw[show n-(i+1)=D.length-1-i by omega]
   generalize D.length-1-i=k at *
   generalize D[k]=v at *
   refine⟨_,rfl,_,rfl,_,rfl,_,rfl,d,.ref (ad v),rfl,?_,_,rfl,b,q,ad v,tb,ps,v,B v,n,R,rfl,(sH2.trans sG) _ _ gq,(nx2 v vm).same sG,TN.tab,pl,kl v vm,okv,fun r G2 gr s3 hr'=>?_⟩
   ·have:=DGet.k (k:=Sum.inl v) (sG _ _ gd2)
    rw[dkv_val,if_pos vm]at this
    exact this
   obtain⟨xs,g1,g2,TN3⟩:=TN.put s3 v0 v1 gr hr' ((sH2.trans sG).free hr')
   refine⟨_,rfl,_,rfl,tb,xs,v,v.toNat,rfl,rfl,g1,g2,?_⟩
   exact⟨_,_,rfl,same_put (sG.trans s3) htb,by rw[upd_ne ltb];exact s3 _ _ gl,TN3,stp⟩
  ·rintro σ G ⟨R,v4,rfl,sG,gl,TN,TD⟩
   rw[List.length_map,Dl,Nat.sub_self]at TD
   have TB:=Hng.told_tab HG M TD
   have TA:=TN.tab
   have sHG:=sH2.trans sG
   obtain⟨as0,a0,g1,g2,g3⟩:=TA.row (k:=0) (Int.le_refl _) (by omega)
   have p0:atI (ps.map V.int) 0=some (V.int (ps.getD 0 0)):=by
    cases ps with
    |nil=>exact absurd rfl pne
    |cons a l=>exact atI_nat (j:=0) rfl
   have r0:=TB 0 (Int.le_refl _) (by omega)
   have rl:∀ v:Int,0<=v->v<n->(R v).length=ps.length/\∀ o w,lo ps (R v) o w≠[]:=fun v v0 v1=>by
    have:=TB v v0 v1
    refine⟨by rw[this];unfold rowOf;rw[List.length_map],fun o w=>?_⟩
    rw[this]
    exact Hng.lo_ne pne
   refine⟨_,rfl,_,rfl,tb,_,_,_,rfl,rfl,g1,g2,_,rfl,rIxQ_of (sHG _ _ gq) p0 ⟨b,q,a0,ps,R 0,ps.getD 0 0,0,rfl,sHG _ _ gq,g3,pl,(rl 0 (Int.le_refl _) (by omega)).1,(rl 0 (Int.le_refl _) (by omega)).2 _ _,fun pa z G2 gz mz lz s3=>?_⟩⟩
   have ez:=lo_mv mz lz
   refine⟨pa,_,rfl,SqT.of gz,rfl,_,_,rfl,_,_,rfl,rfl,?_⟩
   have sH3:=sHG.trans s3
   refine⟨_,rfl,t,_,_,_,rfl,rfl,sH3 _ _ w1,atI_nat (j:=0) rfl,_,rfl,by omega,by omega,?_⟩
   rw[show((n:Int)).toNat=n by omega]
   refine comp_range (lo:=0) (n:=n) (fun i zs G3=>Same G2 G3/\zs=(List.replicate i z.2).map V.int) (by rw[sizeLine_eq];omega) ⟨Same.refl _,rfl⟩ ?_ ?_
   ·rintro i zs G3 hi ⟨s4,rfl⟩
    refine⟨⟨rfl,trivial⟩,tTru_if ⟨_,rfl,s4,?_⟩⟩
    rw[List.replicate_succ',List.map_append]
    rfl
   rintro zs G3 _ ⟨s4,rfl⟩ ow how
   have sow:=Same.new (o:=.lst ((List.replicate n z.2).map V.int)) how
   have s24:=s3.trans s4
   have gd3:=(sG.trans s24) _ _ gd2
   refine⟨_,rfl,d,_,rfl,sow _ _ gd3,fun ob=>?_⟩
   have nod:ow≠d:=fun y=>by rw[y,gd3]at how;cases how
   have hd0:H d=none:=hd
   obtain⟨C,sC,sHC,Co,Cd,CT,Cn⟩:∃ C:Hp,Same C (upd (upd G3 ow (.lst ((List.replicate n z.2).map V.int))) d (.frz ob (.dK (dkv D ad))))/\Same H C/\C ow=none/\C d=some (.frz ob (.dK (dkv D ad)))/\TabN H C tb n R/\∀ v∈D,NxAt C (ad v) (B v):=by
    refine⟨upd G3 d (.frz ob (.dK (dkv D ad))),fun c o e=>?_,same_put (sHG.trans s24) hd0,by rw[upd_ne nod];exact how,upd_same,tabN_to (TN.same s24) (fun xs e=>by rw[gd3]at e;cases e),fun v hv=>((nx2 v hv).same (sG.trans s24)).to (fun xs e=>by rw[gd3]at e;cases e) (fun e=>?_) rfl⟩
    ·by_cases y:c=d
     ·rw[y,upd_same]at e ⊢
      exact e
     ·rw[upd_ne y]at e ⊢
      exact sow _ _ e
    ·obtain⟨ns,h1,_⟩:=(nx2 v hv).same (sG.trans s24)
     rw[e,gd3]at h1
     cases h1
   have go0:(upd (upd G3 ow (.lst ((List.replicate n z.2).map V.int))) d (.frz ob (.dK (dkv D ad)))) ow=some (.lst ((List.replicate n z.2).map V.int)):=by rw[upd_ne nod];exact upd_same
   generalize (upd (upd G3 ow (.lst ((List.replicate n z.2).map V.int))) d (.frz ob (.dK (dkv D ad))))=G4 at sC go0
   have dlen:(dkv D ad).length=D.length:=by unfold dkv;rw[List.length_map]
   refine for_it (d:=d) (o:=ob) (kvs:=dkv D ad) (fun i σ G=>∃ (os:List Int) (v4 v8 v9 v10:Option V),σ=[some (.ref t),some (.ref q),some (.ref d),some (.ref tb),v4,some (.int z.1),some (.int z.2),some (.ref ow),v8,v9,v10]/\Same C G/\G ow=some (.lst (os.map V.int))/\os.length=n/\os.getD 0 0=z.2/\∀ h∈L,h.2.1∈D.take i->Gd ps R os h) ⟨_,_,_,_,_,rfl,sC,go0,List.length_replicate,by rw[List.getD_eq_getElem?_getD,List.getElem?_replicate,if_pos (by omega)];rfl,fun h _ hm=>by rw[List.take_zero]at hm;cases hm⟩ (fun i σ G _ y=>by obtain⟨_,_,_,_,_,_,s,_⟩:=y;exact s _ _ Cd) ?_ ?_
   ·rintro i kv σ G5 T' hkv ⟨os,v4,v8,v9,v10,rfl,s5,go,ol,o0,og⟩ hT
    obtain⟨il,ekv⟩:=List.getElem?_eq_some_iff.mp hkv
    rw[dlen]at il
    have ekv:kv=(Sum.inl D[i],V.ref (ad D[i])):=by
     have:(dkv D ad)[i]?=some (Sum.inl D[i],V.ref (ad D[i])):=by
      unfold dkv
      rw[List.getElem?_map,List.getElem?_eq_getElem il]
      rfl
     rw[hkv]at this
     injection this
    subst ekv
    have vm:=List.getElem_mem il
    obtain⟨v0,v1⟩:=Drg _ vm
    obtain⟨ns,gn,pn⟩:=Cn _ vm
    have okx:∀ x∈B D[i],0<=x.1/\x.1<n:=fun x hx=>by
     obtain⟨g,hg,_,e2,_⟩:=Hng.kid_of ((pk _ vm).mem_iff.mp hx)
     rw[<- e2]
     exact HG.rg g hg
    have kli:=kl _ vm
    have tkD:D.take (i+1)=D.take i++[D[i]]:=List.take_succ_eq_append_getElem il
    have vnt:D[i]∉D.take i:=fun y=>by
     obtain⟨k,hk,ek⟩:=List.getElem_of_mem y
     rw[List.length_take]at hk
     rw[List.getElem_take]at ek
     have:=Hng.nd_ix Dn (by omega) il ek
     omega
    have pkv:=pk _ vm
    have late:∀ g∈L,g.2.1=D[i]->g.1∉D.take (i+1):=fun g hg e y=>by
     obtain⟨j,hj,lt,ej⟩:=Hng.met_drop HG M il hg e
     obtain⟨k,hk,ek⟩:=List.getElem_of_mem y
     rw[List.length_take]at hk
     rw[List.getElem_take]at ek
     have:=Hng.nd_ix Dn (i:=k) (j:=j) (by omega) hj (by rw[ek,ej])
     omega
    rw[tkD]
    rw[tkD]at late
    generalize D[i]=v at *
    have knd:((B v).map (·.1)).Nodup:=by
     refine(pkv.map _).nodup_iff.mpr ?_
     unfold kids
     rw[List.map_map]
     have nd:=HG.nd
     rw[List.nodup_cons]at nd
     exact List.Pairwise.sublist (List.Sublist.map _ List.filter_sublist) nd.2
    have sT:=Same.new (o:=.tup [.int v,.ref (ad v)]) hT
    have nl:=pn.length
    refine⟨T',_,rfl,SqT.of upd_same,rfl,_,_,rfl,_,_,rfl,rfl,?_⟩
    refine⟨_,rfl,ad v,rfl,⟨_,SqL.of (sT _ _ (s5 _ _ gn))⟩,?_⟩
    refine for_list (K:=K) (a:=ad v) (xs:=ns.map V.ref) (fun j σ G=>∃ (os:List Int) (v9 v10:Option V),σ=[some (.ref t),some (.ref q),some (.ref d),some (.ref tb),some (.int v),some (.int z.1),some (.int z.2),some (.ref ow),some (.ref (ad v)),v9,v10]/\Same C G/\G ow=some (.lst (os.map V.int))/\os.length=n/\os.getD 0 0=z.2/\(∀ h∈L,h.2.1∈D.take i->Gd ps R os h)/\∀ h∈L,h.2.1=v->(h.1,h.2.2)∈(B v).take j->Gd ps R os h) ⟨os,_,_,rfl,s5.trans sT,sT _ _ go,ol,o0,og,fun h _ _ hm=>by rw[List.take_zero]at hm;cases hm⟩ (fun j σ G _ y=>by obtain⟨_,_,_,_,s,_⟩:=y;exact SqL.of (s _ _ gn)) ?_ ?_
    ·clear go ol s5 o0 og
     rintro j x σ G6 hx ⟨os,v9,v10,rfl,s6,go,ol,o0,og,ok2⟩
     obtain⟨jl,ex⟩:=List.getElem?_eq_some_iff.mp hx
     rw[List.length_map]at jl
     rw[List.getElem_map]at ex
     subst ex
     have jk:j <(B v).length:=by omega
     have gx:=s6 _ _ (Paired.at pn j jl jk)
     obtain⟨f0,f1⟩:=okx _ (List.getElem_mem jk)
     obtain⟨g,hg,gv,g1,g2'⟩:=Hng.kid_of (pkv.mem_iff.mp (List.getElem_mem jk))
     have fresh:(B v)[j].1∉((B v).take j).map (·.1):=fun y=>by
      obtain⟨x,hx,ex⟩:=List.mem_map.mp y
      obtain⟨k,hk,rfl⟩:=List.getElem_of_mem hx
      rw[List.length_take]at hk
      rw[List.getElem_take]at ex
      have h1:((B v).map (·.1))[k]'(by rw[List.length_map];omega)=((B v).map (·.1))[j]'(by rw[List.length_map];exact jk):=by rw[List.getElem_map,List.getElem_map];exact ex
      have:=(List.getElem_inj knd).mp h1
      omega
     rw[List.take_succ_eq_append_getElem jk]
     generalize (B v)[j]=y at *
     generalize ns[j]=na at *
     obtain⟨as1,a1,h1,h2,h3⟩:=(CT.tab.same s6).row f0 f1
     refine⟨na,_,rfl,SqT.of gx,rfl,_,_,rfl,_,_,rfl,rfl,?_⟩
     refine⟨_,rfl,_,rfl,_,rfl,tb,_,_,_,rfl,rfl,h1,h2,_,rfl,_,rfl,ow,_,_,_,rfl,rfl,go,atI_ni v0 (by omega),_,rfl,b,q,a1,ps,R y.1,os[v.toNat]'(by omega),y.2,rfl,(sHC.trans s6) _ _ gq,h3,pl,(rl _ f0 f1).1,(rl _ f0 f1).2 _ _,fun pa2 z2 G7 gz2 mz2 lz2 s7=>?_⟩
     refine⟨pa2,_,_,_,rfl,rfl,gz2,atI_nat (j:=1) rfl,_,rfl,_,rfl,ow,_,_,y.1.toNat,rfl,rfl,s7 _ _ go,ixN_nn f0 (by rw[List.length_map,ol];exact f1),?_⟩
     have yv:y.1≠v:=fun e=>(late g hg gv) (List.mem_append_right _ (List.mem_singleton.mpr (by rw[g1,e])))
     have lp:∀ h∈L,h.2.1∈D.take i->h.1≠y.1/\h.2.1≠y.1:=fun h hh hm=>⟨fun e=>by
      have:=HG.one hh hg (by rw[e,g1])
      rw[this,gv]at hm
      exact vnt hm,fun e=>late g hg gv (List.mem_append_left _ (by rw[g1,<- e];exact hm))⟩
     have rgp:∀ h∈L,0<=h.2.1:=fun h hh=>by
      rcases List.mem_cons.mp (HG.ne hh).2.2 with e | e
      ·omega
      ·obtain⟨k,hk,ek⟩:=List.mem_map.mp e
       rw[<- ek]
       exact(HG.rg k hk).1
     have y0:y.1≠0:=fun e=>(HG.ne hg).1 (by rw[g1,e])
     refine⟨os.set y.1.toNat z2.2,_,_,rfl,same_put (s6.trans s7) Co,by rw[upd_same,List.map_set],by rw[List.length_set];exact ol,by rw[getD_set_ne (by omega)];exact o0,fun h hh hm=>?_,fun h hh hv hm=>?_⟩
     ·obtain⟨n1',n2'⟩:=lp h hh hm
      have r1:=(HG.rg h hh).1
      have r2:=rgp h hh
      exact(og h hh hm).set (by omega) (by omega)
     ·by_cases ey:h.1=y.1
      ·have hgh:=HG.one hh hg (by rw[ey,g1])
       subst hgh
       refine⟨z2.1,?_⟩
       have ea:(os.set y.1.toNat z2.2).getD h.1.toNat 0=z2.2:=by rw[ey];exact getD_set_eq (by omega)
       have eb:(os.set y.1.toNat z2.2).getD h.2.1.toNat 0=os[v.toNat]'(by omega):=by
        rw[hv,getD_set_ne (by omega),List.getD_eq_getElem?_getD,List.getElem?_eq_getElem (by omega)]
        rfl
       rw[ea,eb,g2',ey]
       exact⟨mz2,lz2⟩
      ·have hm':(h.1,h.2.2)∈(B v).take j:=by
        rcases List.mem_append.mp hm with hm | hm
        ·exact hm
        ·exact absurd (congrArg (·.1) (List.mem_singleton.mp hm)) ey
       have r1:=(HG.rg h hh).1
       exact(ok2 h hh hv hm').set (by omega) (by rw[hv];omega)
    ·rintro σ G6 ⟨os,v9,v10,rfl,s6,go,ol,o0,og,ok2⟩
     rw[List.length_map,nl,List.take_length]at ok2
     refine⟨os,_,_,_,_,rfl,s6,go,ol,o0,fun h hh hm=>?_⟩
     rcases List.mem_append.mp hm with hm | hm
     ·exact og h hh hm
     ·have hv:=List.mem_singleton.mp hm
      refine ok2 h hh hv (pkv.mem_iff.mpr ?_)
      exact List.mem_map.mpr ⟨h,List.mem_filter.mpr ⟨hh,decide_eq_true hv⟩,rfl⟩
   ·rintro σ G5 ⟨os,v4,v8,v9,v10,rfl,s5,go,ol,o0,og⟩
    rw[dlen,List.take_length]at og
    have own:Own n ps L R os z.1:=⟨ol,by rw[o0];exact⟨mz,lz⟩,fun h hh=>og h hh (Hng.nd_all Dn Drg Dl (by
     rcases List.mem_cons.mp (HG.ne hh).2.2 with e | e
     ·omega
     ·obtain⟨k,hk,ek⟩:=List.mem_map.mp e
      rw[<- ek]
      exact(HG.rg k hk).1) (by
     rcases List.mem_cons.mp (HG.ne hh).2.2 with e | e
     ·omega
     ·obtain⟨k,hk,ek⟩:=List.mem_map.mp e
      rw[<- ek]
      exact(HG.rg k hk).2))⟩
    refine⟨_,rfl,_,rfl,ow,_,rfl,go,fun tu htu=>⟨_,rfl,(by show 3<=sizeLine;decide),fun r hr=>?_⟩⟩
    have st:=Same.new (o:=.tup (os.map V.int)) htu
    have sr:=Same.new (o:=.tup [.int z.1,.ref tu,.ref tb]) hr
    exact fin r tu tb z.1 os R _ upd_same (sr _ _ upd_same) (CT.same (s5.trans (st.trans sr))) (sH2.free htb) TB ez own (sHC.trans (s5.trans (st.trans sr)))
end
end K40
namespace Hng
open Nar (Tie ch)
noncomputable def subStep(v:Int)(S:List Ht)(h:Ht):List Ht:=if h.2.1∈v :: S.map (·.1)then S++[h]else S
noncomputable def subs(v:Int)(L:List Ht):List Ht:=L.foldl (subStep v) []
theorem subs_take{v:Int}{L:List Ht}{i:Nat}(h:i<L.length):subs v (L.take (i+1))=subStep v (subs v (L.take i)) L[i]:=by
 unfold subs
 rw[List.take_succ_eq_append_getElem h,List.foldl_append]
 rfl
section
variable{n:Nat}{ties:List Tie}{L:List Ht}{v:Int}
theorem subs_mem:∀ (i:Nat),i<=L.length->∀ h∈subs v (L.take i),∃ (j:Nat) (hj:j<L.length),j<i/\L[j]=h
 | 0,_,h,hh=>by rw[List.take_zero]at hh;cases hh
 |i+1,hi,h,hh=>by
  rw[subs_take (show i<L.length by omega)]at hh
  unfold subStep at hh
  by_cases z:L[i].2.1∈v :: (subs v (L.take i)).map (·.1)
  ·rw[if_pos z]at hh
   rcases List.mem_append.mp hh with hh | hh
   ·obtain⟨j,hj,ji,e⟩:=subs_mem i (by omega) h hh
    exact⟨j,hj,by omega,e⟩
   ·exact⟨i,by omega,by omega,(List.mem_singleton.mp hh).symm⟩
  ·rw[if_neg z]at hh
   obtain⟨j,hj,ji,e⟩:=subs_mem i (by omega) h hh
   exact⟨j,hj,by omega,e⟩
theorem subs_up:∀ (i:Nat),i<=L.length->∀ (j:Nat) (hj:j <(subs v (L.take i)).length),(subs v (L.take i))[j].2.1∈v :: ((subs v (L.take i)).take j).map (·.1)
 | 0,_,j,hj=>by exfalso;rw[List.take_zero]at hj;exact absurd hj (Nat.not_lt_zero _)
 |i+1,hi,j,hj=>by
  have ih:=subs_up i (by omega)
  have e:=subs_take (v:=v) (show i<L.length by omega)
  unfold subStep at e
  by_cases z:L[i].2.1∈v :: (subs v (L.take i)).map (·.1)
  ·rw[if_pos z]at e
   simp only[e]at hj ⊢
   by_cases y:j <(subs v (L.take i)).length
   ·rw[List.getElem_append_left y,List.take_append_of_le_length (by omega)]
    exact ih j y
   ·have ej:j=(subs v (L.take i)).length:=by rw[List.length_append,List.length_singleton]at hj;omega
    subst ej
    rw[List.getElem_append_right (Nat.le_refl _),List.take_left' rfl]
    simp only[Nat.sub_self,List.getElem_cons_zero]
    exact z
  ·rw[if_neg z]at e
   simp only[e]at hj ⊢
   exact ih j hj
theorem subs_none(H:Hang n ties L){k:Nat}(hk:k<L.length)(e:L[k].1=v):∀ (i:Nat),i<=k+1->subs v (L.take i)=[]
 | 0,_=>by rw[List.take_zero];rfl
 |i+1,hi=>by
  rw[subs_take (show i<L.length by omega),subs_none H hk e i (by omega)]
  unfold subStep
  rw[if_neg]
  intro z
  have z:L[i].2.1=v:=by simpa using z
  have nd:=H.nd
  rw[List.nodup_cons]at nd
  have up:=H.up i (by omega)
  rw[z,<- e]at up
  rcases List.mem_cons.mp up with y | y
  ·exact(H.ne (List.getElem_mem hk)).1 y
  ·obtain⟨g,hg,eg⟩:=List.mem_map.mp y
   obtain⟨j,hj,rfl⟩:=List.getElem_of_mem hg
   rw[List.length_take]at hj
   rw[List.getElem_take]at eg
   have:=fst_inj nd.2 (i:=j) (j:=k) (by omega) hk eg
   omega
theorem subs_nd(H:Hang n ties L):∀ (i:Nat),i<=L.length->(v :: (subs v (L.take i)).map (·.1)).Nodup
 | 0,_=>by rw[List.take_zero];exact List.pairwise_singleton _ _
 |i+1,hi=>by
  have ih:=subs_nd H i (by omega)
  rw[subs_take (show i<L.length by omega)]
  unfold subStep
  by_cases z:L[i].2.1∈v :: (subs v (L.take i)).map (·.1)
  ·rw[if_pos z,List.map_append,<- List.cons_append]
   refine List.nodup_append.mpr ⟨ih,List.pairwise_singleton _ _,fun a ha b hb e=>?_⟩
   have hb:b=L[i].1:=by simpa using hb
   have nd:=H.nd
   rw[List.nodup_cons]at nd
   rcases List.mem_cons.mp ha with y | y
   ·have ev:L[i].1=v:=by rw[<- hb,<- e,y]
    have:=subs_none H (show i<L.length by omega) ev i (by omega)
    rw[this]at z
    have z:L[i].2.1=v:=by simpa using z
    exact(H.ne (List.getElem_mem (show i<L.length by omega))).2.1 (by rw[ev,z])
   ·obtain⟨g,hg,eg⟩:=List.mem_map.mp y
    obtain⟨j,hj,ji,rfl⟩:=subs_mem i (by omega) g hg
    have:=fst_inj nd.2 hj (show i<L.length by omega) (by rw[eg,e,hb])
    omega
  ·rw[if_neg z];exact ih
theorem subs_stay(H:Hang n ties L){j:Nat}(hj:j<L.length):∀ (i:Nat),j+1<=i->i<=L.length->L[j]∈subs v (L.take i)->L[j]∈subs v (L.take (j+1))
 | 0,h,_,_=>by omega
 |i+1,h,hi,hm=>by
  by_cases e:i=j
  ·subst e;exact hm
  ·refine subs_stay H hj i (by omega) (by omega) ?_
   rw[subs_take (show i<L.length by omega)]at hm
   unfold subStep at hm
   by_cases z:L[i].2.1∈v :: (subs v (L.take i)).map (·.1)
   ·rw[if_pos z]at hm
    rcases List.mem_append.mp hm with hm | hm
    ·exact hm
    ·have nd:=H.nd
     rw[List.nodup_cons]at nd
     have:=fst_inj nd.2 hj (show i<L.length by omega) (by rw[List.mem_singleton.mp hm])
     omega
   ·rw[if_neg z]at hm;exact hm
theorem subs_keep{j:Nat}{h:Ht}(hm:h∈subs v (L.take j)):∀ (i:Nat),j<=i->i<=L.length->h∈subs v (L.take i)
 | 0,ji,_=>by
  obtain rfl:j=0:=by omega
  exact hm
 |i+1,ji,hi=>by
  by_cases e:j=i+1
  ·rw[<- e];exact hm
  ·have:=subs_keep hm i (by omega) (by omega)
   rw[subs_take (show i<L.length by omega)]
   unfold subStep
   by_cases z:L[i].2.1∈v :: (subs v (L.take i)).map (·.1)
   ·rw[if_pos z];exact List.mem_append_left _ this
   ·rw[if_neg z];exact this
theorem subs_all(H:Hang n ties L){h:Ht}(hh:h∈L)(hp:h.2.1∈v :: (subs v L).map (·.1)):h∈subs v L:=by
 obtain⟨i,hi,rfl⟩:=List.getElem_of_mem hh
 have full:subs v L=subs v (L.take L.length):=by rw[List.take_length]
 have at_i:L[i].2.1∈v :: (subs v (L.take i)).map (·.1):=by
  rcases List.mem_cons.mp hp with z | z
  ·rw[z];exact List.mem_cons_self ..
  ·obtain⟨g,hg,eg⟩:=List.mem_map.mp z
   rw[full]at hg
   obtain⟨j,hj,_,rfl⟩:=subs_mem L.length (Nat.le_refl _) g hg
   have nd:=H.nd
   rw[List.nodup_cons]at nd
   have ji:j<i:=by
    rcases List.mem_cons.mp (H.up i hi)with y | y
    ·exact absurd (eg.trans y) (H.ne (List.getElem_mem hj)).1
    ·obtain⟨f,hf,ef⟩:=List.mem_map.mp y
     obtain⟨k,hk,rfl⟩:=List.getElem_of_mem hf
     rw[List.length_take]at hk
     rw[List.getElem_take]at ef
     have:=fst_inj nd.2 (i:=k) (j:=j) (by omega) hj (by rw[ef,eg])
     omega
   have s1:=subs_stay H hj L.length (by omega) (Nat.le_refl _) hg
   have s2:=subs_keep s1 i (by omega) (by omega)
   exact List.mem_cons_of_mem _ (List.mem_map.mpr ⟨_,s2,eg⟩)
 have added:L[i]∈subs v (L.take (i+1)):=by
  rw[subs_take hi]
  unfold subStep
  rw[if_pos at_i]
  exact List.mem_append_right _ (List.mem_singleton.mpr rfl)
 rw[full]
 exact subs_keep added L.length (by omega) (Nat.le_refl _)
theorem subs_sub(H:Hang n ties L):Sub L v (subs v L)/\∀ h∈subs v L,h∈L:=by
 have full:subs v L=subs v (L.take L.length):=by rw[List.take_length]
 have nd:(v :: (subs v L).map (·.1)).Nodup:=by rw[full];exact subs_nd H _ (Nat.le_refl _)
 have mem:∀ h∈subs v L,h∈L:=fun h hh=>by
  rw[full]at hh
  obtain⟨j,hj,_,rfl⟩:=subs_mem L.length (Nat.le_refl _) h hh
  exact List.getElem_mem hj
 have up:∀ (i:Nat) (h:i <(subs v L).length),(subs v L)[i].2.1∈v :: ((subs v L).take i).map (·.1):=by
  have:=subs_up (v:=v) (L:=L) L.length (Nat.le_refl _)
  rw[List.take_length]at this
  exact this
 refine⟨⟨nd,up,fun c hc=>?_⟩,mem⟩
 have ndS:(subs v L).Nodup:=by
  rw[List.nodup_cons]at nd
  exact(List.pairwise_map.mp nd.2).imp fun {a b} ne e=>ne (by rw[e])
 unfold kids
 refine List.Perm.map _ ((List.perm_ext_iff_of_nodup (H.nodup.filter _) (ndS.filter _)).mpr fun h=>?_)
 rw[List.mem_filter,List.mem_filter]
 constructor
 ·rintro⟨h1,h2⟩
  exact⟨subs_all H h1 (by rw[of_decide_eq_true h2];exact hc),h2⟩
 ·rintro⟨h1,h2⟩
  exact⟨mem h h1,h2⟩
noncomputable def tpay(a:Int->Int)(x:Tie):Int:=if a x.1=a x.2.1 then 0 else x.2.2
theorem pay_tie(a:Int->Int)(h:Ht):tpay a (toTie h)=pay a h:=by
 unfold tpay pay toTie
 by_cases z:h.1<h.2.1
 ·rw[if_pos z]
 ·rw[if_neg z]
  show(if a h.2.1=a h.1 then 0 else h.2.2)=_
  by_cases y:a h.1=a h.2.1
  ·rw[if_pos y,if_pos y.symm]
  ·rw[if_neg y,if_neg (Ne.symm y)]
theorem pay_sum{wt:List Tie}{S:List Ht}(p:wt.Perm (S.map toTie))(a:Int->Int):(wt.map (tpay a)).sum=(S.map (pay a)).sum:=by
 rw[sum_perm (p.map (tpay a)),List.map_map]
 congr 1
 exact List.map_congr_left fun h _=>pay_tie a h
end
end Hng
namespace K40
open PySem L2 PyProof.Rows
open Hng (Ht Hang kids Met Lst mn lo mv due rowOf Tab opn Told Part Sub subs toTie)
noncomputable def HtAt(H:Hp)(a:Addr)(h:Ht):Prop:=H a=some (.tup [.int h.1,.int h.2.1,.int h.2.2])
theorem part_len{n:Nat}{ties:List Tie}{L:List Ht}(n1:1<=n)(P:Part n ties L):L.length+1<=n:=by
 have:=Hng.le_sub P.nd (m:=(List.range n).map fun(i:Nat)=>(i:Int)) fun x hx=>by
  rcases List.mem_cons.mp hx with e | e
  ·rw[e];exact List.mem_map.mpr ⟨0,List.mem_range.mpr (by omega),rfl⟩
  ·obtain⟨h,hh,rfl⟩:=List.mem_map.mp e
   have:=P.rg h hh
   exact List.mem_map.mpr ⟨h.1.toNat,List.mem_range.mpr (by omega),by omega⟩
 rw[List.length_cons,List.length_map,List.length_map,List.length_range]at this
 exact this
theorem inV_dec{z:Int}{ns:List Int}:inV (V.int z) (ns.map V.int)=decide (z∈ns):=by
 rw[inV_ints,Bool.eq_iff_iff,decide_eq_true_eq]
 exact List.contains_iff_mem
theorem choosePr{q:Addr}{H:Hp}{S:List Int}{a b:Int}{σ:L2.St}{Q:VK}(gq:H q=some (.lst (S.map V.int)))(e3:σ[3]?=some (some (.int a)))(e4:σ[4]?=some (some (.int b)))
  (h:∀ (tt:Addr) (G:Hp),Same H G->G tt=some (.tup [.int (if a∈S then a else b),.int (if a∈S then b else a)])->Q (.ref tt) G) :
  rInQ false false (.int a) (.ref q) H fun x H'=>∃ k,x = .bl k/\(fun c H1=>if c=true then tTup (tCons (tVar 3) (tCons (tVar 4) tNil)) σ H1 Q else tTup (tCons (tVar 4) (tCons (tVar 3) tNil)) σ H1 Q) k H':=by
 refine⟨q,_,rfl,gq,rfl,flat_ints _,_,rfl,?_⟩
 show if inV (.int a) (S.map V.int)=true then _ else _
 rw[inV_dec]
 by_cases z:a∈S
 ·rw[decide_eq_true z,if_pos rfl]
  refine⟨_,e3,_,e4,(by show 2<=sizeLine;decide),fun tt htt=>h tt _ (Same.new htt) ?_⟩
  rw[upd_same,if_pos z,if_pos z]
 ·rw[decide_eq_false z,if_neg Bool.false_ne_true]
  refine⟨_,e4,_,e3,(by show 2<=sizeLine;decide),fun tt htt=>h tt _ (Same.new htt) ?_⟩
  rw[upd_same,if_neg z,if_neg z]
noncomputable def spHu:Sp:=fun vs H Q _=>∃ (t:Addr) (n:Nat) (ties:List Tie),vs=[.ref t]/\WebAt H t n ties/\(∀ x∈ties,TieOk n x)/\n<=30/\1<=n/\Flw.Tree n ties/\ties.Nodup/\ties.length+1=n /\
 ∀ (l a0:Addr) (as:List Addr) (L:List Ht) (H':Hp),H' l=some (.lst ((a0 :: as).map V.ref))->H' a0=some (.tup [.int 0,.non,.int 0])->Paired (HtAt H') as L->Hang n ties L->Same H H'->Q (.ref l) H'
structure Fnd(n:Nat)(ties:List Tie)(H G:Hp)(fl ml a0:Addr)(as:List Addr)(L:List Ht):Prop where
 s:Same H G
 f:G fl=some (.lst ((a0 :: as).map V.ref))
 m:G ml=some (.lst ((0 :: L.map (·.1)).map V.int))
 z:G a0=some (.tup [.int 0,.non,.int 0])
 p:Paired (HtAt G) as L
 P:Part n ties L
noncomputable def HuI(n:Nat)(ties:List Tie)(H:Hp)(t fl ml a0:Addr)(m:Nat)(σ:L2.St)(G:Hp):Prop:=∃ (L:List Ht) (as:List Addr) (v3 v4 v5 v6 v7:Option V),m=n-L.length/\σ=[some (.ref t),some (.ref fl),some (.ref ml),v3,v4,v5,v6,v7]/\Fnd n ties H G fl ml a0 as L
section
variable{P:Program}{w:World}{K:PySem.W.Frag}{mg:Str->Option Value}{base:Heap}
noncomputable abbrev nHu:List Str:=["_law_web","_law_found","_law_met","_law_a","_law_b","_law_weight_here","_law_one","_law_other"]
theorem scHu:FnScope nHu ["_law_web"] (defScope sHung):=⟨rfl,rfl,rfl,by decide +kernel,rfl,by decide +kernel,by decide +kernel⟩
theorem ok_hu{f:Addr}{fd:FuncData}(F:Fun K "_law_hung" "_law_hung" sHung f fd)(T:Txt mg):FnOk P w K mg base CX0 1 f fd ["_law_web"] spHu:=by
 refine F.ok scHu (fun vs H Q E h=>?_) (fun cdv A outer s H vs Q E hr h=>?_)
 ·obtain⟨t,n,ties,rfl,_⟩:=h
  rfl
 ·obtain⟨t,n,ties,rfl,W,ok,n30,n1,TR,nt,tlen,fin⟩:=h
  refine⟨_,(pss_cons (ps_set (i:=1) scHu.nd rfl (Or.inl rfl) (@pe_lst _ _ _ _ (@pa_tup _ _ _ _ _ _ _ (@pe_tup _ _ _ _ _ (@pa_cst _ _ _ _ _ _ _ pe_int (@pa_cst _ _ _ _ _ _ _ pe_non (@pa_cst _ _ _ _ _ _ _ pe_int pa_nil)))) pa_nil)))
   (pss_cons (ps_set (i:=2) scHu.nd rfl (Or.inl rfl) (@pe_lst _ _ _ _ (@pa_cst _ _ _ _ _ _ _ pe_int pa_nil)))
   (pss_cons (ps_while PassesOwn.never (pt_cmpR op_lt (pe_callB call_lenH (by rfl) T.len PySem.boot_len (@pa_nam _ _ _ _ _ _ (pv 1) pa_nil)) (@pe_ix _ _ _ _ _ _ _ ix_tupH (pv 0) pe_int (fun _ _=>rfl)) (nomark _)) (pss_one (ps_for PassesOwn.never rfl (pi_tup (@pe_ix _ _ _ _ _ _ _ ix_tupH (pv 0) pe_int (fun _ _=>rfl))) (pg_tup (n:=3) rfl (pgs_cons (pg_name (i:=3) scHu.nd rfl (Or.inl rfl)) (pgs_cons (pg_name (i:=4) scHu.nd rfl (Or.inl rfl)) (pgs_cons (pg_name (i:=5) scHu.nd rfl (Or.inl rfl)) pgs_nil))))
   (pss_one (ps_if (pt_cmpR op_ne (pe_cmpR op_inH (pv 3) (pv 2) rfl) (pe_cmpR op_inH (pv 4) (pv 2) rfl) (nomark _)) (pss_cons (ps_asg (pe_ifExp (pt_cmpR op_inH (pv 3) (pv 2) rfl) (@pe_tup _ _ _ _ _ (@pa_nam _ _ _ _ _ _ (pv 3) (@pa_nam _ _ _ _ _ _ (pv 4) pa_nil))) (@pe_tup _ _ _ _ _ (@pa_nam _ _ _ _ _ _ (pv 4) (@pa_nam _ _ _ _ _ _ (pv 3) pa_nil)))) (pg_tup (n:=2) rfl (pgs_cons (pg_name (i:=6) scHu.nd rfl (Or.inl rfl)) (pgs_cons (pg_name (i:=7) scHu.nd rfl (Or.inl rfl)) pgs_nil))))
   (pss_cons (ps_expr (pe_bmH PySem.F.slot_list_append PySem.F.type_list_append mt_append (pv 1) (@pa_tup _ _ _ _ _ _ _ (@pe_tup _ _ _ _ _ (@pa_nam _ _ _ _ _ _ (pv 7) (@pa_nam _ _ _ _ _ _ (pv 6) (@pa_nam _ _ _ _ _ _ (pv 5) pa_nil)))) pa_nil)))
   (pss_one (ps_expr (pe_bmH PySem.F.slot_list_append PySem.F.type_list_append mt_append (pv 2) (@pa_nam _ _ _ _ _ _ (pv 7) pa_nil)))))) pss_nil)))))
   (pss_one (ps_ret (pv 1)))))),?_⟩
  obtain⟨⟨ts,was,w1,w2,w3⟩,tl⟩:=id W
  have wl:=w3.length
  have okT:∀ x∈ties,0<=x.1/\x.1<x.2.1/\x.2.1<n:=fun x hx=>⟨(ok x hx).1,(ok x hx).2.1,(ok x hx).2.2.1⟩
  refine⟨(by show 3<=sizeLine;decide),fun a0 ha0=>⟨(by show 1<=sizeLine;decide),fun fl hfl=>?_⟩⟩
  have s1:=Same.new (o:=.tup [.int 0,.non,.int 0]) ha0
  have s2:=Same.new (o:=.lst [.ref a0]) hfl
  refine⟨(by show 1<=sizeLine;decide),fun ml hml=>?_⟩
  have s3:=Same.new (o:=.lst [.int 0]) hml
  have fl0:H fl=none:=s1.free hfl
  have ml0:H ml=none:=(s1.trans s2).free hml
  have fm:fl≠ml:=fun z=>by rw[<- z,upd_same]at hml;cases hml
  have F0:Fnd n ties H (upd (upd (upd H a0 (.tup [.int 0,.non,.int 0])) fl (.lst [.ref a0])) ml (.lst [.int 0])) fl ml a0 [] [] :=
   ⟨s1.trans (s2.trans s3),s3 _ _ upd_same,upd_same,s3 _ _ (s2 _ _ upd_same),.nil,⟨List.pairwise_singleton _ _,(fun _ h=>nomatch h),(fun _ h=>absurd h (Nat.not_lt_zero _)),(fun _ h=>nomatch h),List.Pairwise.nil⟩⟩
  generalize (upd (upd (upd H a0 (.tup [.int 0,.non,.int 0])) fl (.lst [.ref a0])) ml (.lst [.int 0]))=H1 at F0
  refine⟨HuI n ties H t fl ml a0,⟨_,[],[],_,_,_,_,_,rfl,rfl,F0⟩,?_⟩
  rintro m σ G ⟨L,as,v3,v4,v5,v6,v7,rfl,rfl,FN⟩
  have pl:=part_len n1 FN.P
  have al:=FN.p.length
  refine⟨_,rfl,fl,_,rfl,FN.f,_,rfl,t,_,_,_,rfl,rfl,FN.s _ _ w1,atI_nat (j:=0) rfl,_,_,rfl,rfl,_,rfl,?_⟩
  have len:((((a0 :: as).map V.ref).length:Nat):Int)=(L.length:Int)+1:=by rw[List.length_map,List.length_cons,al];omega
  rw[len]
  by_cases c:(L.length:Int)+1<n
  ·rw[decide_eq_true c]
   refine iteT ⟨fun σ' H'=>∃ m',m'<n-L.length/\HuI n ties H t fl ml a0 m' σ' H',fun σ' H' h=>h,?_⟩
   refine⟨_,rfl,t,_,_,_,rfl,rfl,FN.s _ _ w1,atI_nat (j:=1) rfl,ts,rfl,⟨_,SqT.of (FN.s _ _ w2)⟩,?_⟩
   refine for_tup (K:=K) (a:=ts) (xs:=was.map V.ref) (fun i σ G=>∃ (L2:List Ht) (as2:List Addr) (v3 v4 v5 v6 v7:Option V),σ=[some (.ref t),some (.ref fl),some (.ref ml),v3,v4,v5,v6,v7]/\Fnd n ties H G fl ml a0 as2 L2/\(L.length<L2.length\/(L2=L/\∀ (j:Nat) (h:j<ties.length),j<i->(ties[j].1∈0 :: L.map (·.1)↔ties[j].2.1∈0 :: L.map (·.1))))) ⟨L,as,_,_,_,_,_,rfl,FN,.inr ⟨rfl,fun j h z=>by omega⟩⟩ (fun i σ G _ z=>by obtain⟨_,_,_,_,_,_,_,_,F2,_⟩:=z;exact SqT.of (F2.s _ _ w2)) ?_ ?_
   ·rintro i x σ G2 hx ⟨L2,as2,v3,v4,v5,v6,v7,rfl,F2,gr⟩
    obtain⟨il,ex⟩:=List.getElem?_eq_some_iff.mp hx
    rw[List.length_map]at il
    rw[List.getElem_map]at ex
    subst ex
    have it:i<ties.length:=by omega
    have gx:=F2.s _ _ (Paired.at w3 i il it)
    have hz:=List.getElem_mem it
    have put:=Hng.tie_put okT F2.P hz
    have al2:=F2.p.length
    have pl2:=part_len n1 F2.P
    have stay:(ties[i].1∈0 :: L2.map (·.1)↔ties[i].2.1∈0 :: L2.map (·.1))->(L.length<L2.length\/(L2=L/\∀ (j:Nat) (h:j<ties.length),j<i+1->(ties[j].1∈0 :: L.map (·.1)↔ties[j].2.1∈0 :: L.map (·.1)))):=fun e=>by
     rcases gr with g |⟨rfl,g⟩
     ·exact .inl g
     ·refine .inr ⟨rfl,fun j h ji=>?_⟩
      by_cases y:j<i
      ·exact g j h y
      ·obtain rfl:j=i:=by omega
       exact e
    have more:L.length<L2.length+1:=by
     rcases gr with g |⟨rfl,g⟩
     ·omega
     ·omega
    generalize ties[i]=x at *
    obtain⟨a,b,c'⟩:=x
    refine⟨was[i],_,rfl,SqT.of gx,rfl,_,_,rfl,_,_,rfl,_,_,rfl,rfl,?_⟩
    refine⟨_,rfl,_,rfl,ml,_,rfl,F2.m,rfl,flat_ints _,_,rfl,_,rfl,ml,_,rfl,F2.m,rfl,flat_ints _,rfl,_,rfl,?_⟩
    have ee:(!decide (V.bl (if false=true then !inV (V.int a) ((0 :: L2.map (·.1)).map V.int)else inV (V.int a) ((0 :: L2.map (·.1)).map V.int))=V.bl (if false=true then !inV (V.int b) ((0 :: L2.map (·.1)).map V.int)else inV (V.int b) ((0 :: L2.map (·.1)).map V.int)))) = !decide (a∈0 :: L2.map (·.1)↔b∈0 :: L2.map (·.1)):=by
     rw[if_neg Bool.false_ne_true,if_neg Bool.false_ne_true,inV_dec,inV_dec]
     congr 1
     rw[decide_eq_decide]
     constructor
     ·intro e
      injection e with e
      rw[decide_eq_decide]at e
      exact e
     ·intro e
      rw[decide_eq_decide.mpr e]
    rw[ee]
    by_cases cr:(a∈0 :: L2.map (·.1)↔b∈0 :: L2.map (·.1))
    ·rw[decide_eq_true cr]
     exact iteF ⟨L2,as2,_,_,_,_,_,rfl,F2,stay cr⟩
    ·rw[decide_eq_false cr]
     refine iteT ?_
     refine⟨_,rfl,_,rfl,choosePr F2.m rfl rfl fun tt G3 s4 gt=>?_⟩
     have np:Part n ties (L2++[((if a∈0 :: L2.map (·.1)then b else a),(if a∈0 :: L2.map (·.1)then a else b),c')]):=by
      by_cases ya:a∈0 :: L2.map (·.1)
      ·rw[if_pos ya,if_pos ya]
       exact put.1 ya (fun yb=>cr ⟨fun _=>yb,fun _=>ya⟩)
      ·rw[if_neg ya,if_neg ya]
       exact put.2 ya (Classical.byContradiction fun yb=>cr ⟨fun h=>absurd h ya,fun h=>absurd h yb⟩)
     generalize (if a∈0 :: L2.map (·.1)then b else a)=oth at *
     generalize (if a∈0 :: L2.map (·.1)then a else b)=one at *
     refine⟨tt,_,rfl,SqT.of gt,rfl,_,_,rfl,_,_,rfl,rfl,?_⟩
     have f3:=s4 _ _ F2.f
     have m3:=s4 _ _ F2.m
     refine⟨_,rfl,⟨fl,_,rfl,f3⟩,_,rfl,_,rfl,_,rfl,(by show 3<=sizeLine;decide),fun c hc=>?_⟩
     have sc:=Same.new (o:=.tup [.int oth,.int one,.int c']) hc
     refine⟨fl,_,_,rfl,rfl,sc _ _ f3,by rw[List.length_map,List.length_cons,al2,sizeLine_eq];omega,?_⟩
     have m4:(upd (upd G3 c (.tup [.int oth,.int one,.int c'])) fl (.lst ((a0 :: as2).map V.ref++[.ref c]))) ml=some (.lst ((0 :: L2.map (·.1)).map V.int)):=by
      rw[upd_ne (Ne.symm fm)]
      exact sc _ _ m3
     refine⟨_,rfl,⟨ml,_,rfl,m4⟩,_,rfl,ml,_,_,rfl,rfl,m4,by rw[List.length_map,List.length_cons,List.length_map,sizeLine_eq];omega,?_⟩
     have tup:∀ {b:Addr}{xs:List V},(upd G3 c (.tup [.int oth,.int one,.int c'])) b=some (.tup xs)->(upd (upd (upd G3 c (.tup [.int oth,.int one,.int c'])) fl (.lst ((a0 :: as2).map V.ref++[.ref c]))) ml (.lst ((0 :: L2.map (·.1)).map V.int++[.int oth]))) b=some (.tup xs):=fun {b xs} h=>by
      rw[upd_ne (fun z=>by rw[z,sc _ _ m3]at h;cases h),upd_ne (fun z=>by rw[z,sc _ _ f3]at h;cases h)]
      exact h
     refine⟨L2++[(oth,one,c')],as2++[c],_,_,_,_,_,rfl,⟨same_put (same_put (F2.s.trans (s4.trans sc)) fl0) ml0,?_,?_,tup (sc _ _ (s4 _ _ F2.z)),Paired.snoc (Paired.mapP F2.p fun _ _ h=>tup (sc _ _ (s4 _ _ h))) (tup upd_same),np⟩,.inl (by rw[List.length_append];exact more)⟩
     ·rw[upd_ne fm,upd_same,<- List.cons_append,List.map_append]
      rfl
     ·rw[upd_same,List.map_append,<- List.cons_append,List.map_append]
      rfl
   ·rintro σ G2 ⟨L2,as2,v3,v4,v5,v6,v7,rfl,F2,gr⟩
    rw[List.length_map,wl]at gr
    rcases gr with g |⟨rfl,g⟩
    ·exact⟨n-L2.length,by omega,L2,as2,_,_,_,_,_,rfl,rfl,F2⟩
    ·exfalso
     obtain⟨z,hz,cr⟩:=Hng.leads TR (S:=0 :: L2.map (·.1)) (List.mem_cons_self ..) n1 (by rw[List.length_cons,List.length_map];omega)
     obtain⟨j,hj,rfl⟩:=List.getElem_of_mem hz
     exact cr (g j hj hj)
  ·rw[decide_eq_false c]
   exact iteF ⟨_,rfl,fin fl a0 as L G FN.f FN.z FN.p (FN.P.hang n1 nt tlen (by omega)) FN.s⟩
end
end K40
namespace Hng
open Nar (Tie ch)
theorem lo_zero{q:Int}:∀ {ps:List Int}{row:List (Option Int)},row.length=ps.length->(lo ps row q 0).map (·.1)=row.filterMap id
 |[],[],_=>rfl
 |[],_ :: _,h=>by cases h
 | _ :: _,[],h=>by cases h
 |p :: ps,x :: row,h=>by
  injection h with h
  have ih:=lo_zero (q:=q) h
  unfold lo at *
  rw[List.zip_cons_cons,List.filterMap_cons,List.filterMap_cons]
  cases x with
  |none=>exact ih
  |some z =>
   show(if p=q then z else z+0) :: _=z :: _
   rw[show(if p=q then z else z+0)=z by split <;> omega]
   congr 1
open Nar (Tie ch)
theorem sum_parts{f:Ht->Int}{key:Ht->Int}:∀ {V:List Int} (_:V.Nodup) {L:List Ht} (_:∀ h∈L,key h∈V),(L.map f).sum=(V.map fun v=>((L.filter fun h=>decide (key h=v)).map f).sum).sum
 |[],_,L,h=>by
  cases L with
  |nil=>rfl
  |cons a L=>exact absurd (h a (List.mem_cons_self ..)) (by simp)
 |v :: V,nd,L,h=>by
  rw[List.nodup_cons]at nd
  rw[List.map_cons,List.sum_cons]
  have e1:(L.map f).sum=((L.filter fun h=>decide (key h=v)).map f).sum+((L.filter fun h=>!decide (key h=v)).map f).sum:=by
   clear h
   induction L with
   |nil=>rfl
   |cons a L ih =>
    rw[List.map_cons,List.sum_cons,ih,List.filter_cons,List.filter_cons]
    by_cases z:key a=v
    ·rw[if_pos (decide_eq_true z),if_neg (by rw[decide_eq_true z];exact Bool.false_ne_true),List.map_cons,List.sum_cons]
     omega
    ·rw[if_neg (fun w=>z (of_decide_eq_true w)),if_pos (by rw[decide_eq_false z];rfl),List.map_cons,List.sum_cons]
     omega
  rw[e1,sum_parts (f:=f) (key:=key) nd.2 (L:=L.filter fun h=>!decide (key h=v)) (fun g hg=>by
   obtain⟨g1,g2⟩:=List.mem_filter.mp hg
   rcases List.mem_cons.mp (h g g1)with e | e
   ·rw[decide_eq_true e]at g2;cases g2
   ·exact e)]
  congr 2
  refine List.map_congr_left fun u hu=>?_
  rw[List.filter_filter]
  congr 2
  refine List.filter_congr fun g _=>?_
  by_cases z:key g=u
  ·rw[decide_eq_true z,decide_eq_false (fun y=>nd.1 (by rw[<- y,z];exact hu))]
   rfl
  ·rw[decide_eq_false z]
   rfl
section
variable{n:Nat}{ps:List Int}{ties:List Tie}{L:List Ht}{R:Int->List (Option Int)}{a:Int->Int}
theorem due_parts(H:Hang n ties L):(L.map fun h=>mv ps (R h.1) (a h.2.1) h.2.2).sum=due ps R (kids L 0) (a 0)+(L.map fun h=>due ps R (kids L h.1) (a h.1)).sum:=by
 rw[sum_parts (key:=fun h=>h.2.1) H.nd (fun h hh=>(H.ne hh).2.2),List.map_cons,List.sum_cons,List.map_map]
 have e:∀ v:Int,((L.filter fun h=>decide (h.2.1=v)).map fun h=>mv ps (R h.1) (a h.2.1) h.2.2).sum=due ps R (kids L v) (a v):=fun v=>by
  unfold due kids
  rw[List.map_map]
  congr 1
  refine List.map_congr_left fun h hh=>?_
  rw[of_decide_eq_true (List.mem_filter.mp hh).2]
  rfl
 rw[e 0]
 congr 2
 exact List.map_congr_left fun h _=>e h.1
theorem sum_le{α:Type}{f g:α->Int}:∀ {l:List α},(∀ x∈l,f x<=g x)->(l.map f).sum<=(l.map g).sum
 |[],_=>Int.le_refl _
 |x :: l,h=>by
  have:=h x (List.mem_cons_self ..)
  have:=sum_le (l:=l) fun y hy=>h y (List.mem_cons_of_mem _ hy)
  rw[List.map_cons,List.map_cons,List.sum_cons,List.sum_cons]
  lia
theorem pay_mv(h:Ht):(if a h.1=a h.2.1 then due ps R (kids L h.1) (a h.1)else due ps R (kids L h.1) (a h.1)+h.2.2)=pay a h+due ps R (kids L h.1) (a h.1):=by
 unfold pay
 by_cases z:a h.1=a h.2.1
 ·rw[if_pos z,if_pos z];omega
 ·rw[if_neg z,if_neg z];omega
theorem cost_ge(H:Hang n ties L)(T:Tab n ps L R)(ne:ps≠[])(ha:∀ v:Int,0<=v->v<n->a v∈ch ps v):due ps R (kids L 0) (a 0)<=(L.map (pay a)).sum:=by
 have e:=due_parts (ps:=ps) (R:=R) (a:=a) H
 have le:(L.map fun h=>mv ps (R h.1) (a h.2.1) h.2.2).sum<=(L.map fun h=>pay a h+due ps R (kids L h.1) (a h.1)).sum:=sum_le fun h hh=>by
  obtain⟨r0,r1⟩:=H.rg h hh
  have m:=mv_lst (ps:=ps) ne (R:=R) (v:=h.1) (q:=a h.2.1) (w:=h.2.2) (ks:=kids L h.1)
  rw[<- T h.1 r0 r1]at m
  have:=m.le _ (List.mem_map.mpr ⟨a h.1,ha h.1 r0 r1,rfl⟩)
  rw[pay_mv]at this
  exact this
 have s:=sum_add (l:=L) (f:=fun h=>pay a h+due ps R (kids L h.1) (a h.1)) (g:=pay a) (h:=fun h=>due ps R (kids L h.1) (a h.1)) fun _ _=>rfl
 omega
theorem cost_eq(H:Hang n ties L)(ha:∀ h∈L,mv ps (R h.1) (a h.2.1) h.2.2=if a h.1=a h.2.1 then due ps R (kids L h.1) (a h.1)else due ps R (kids L h.1) (a h.1)+h.2.2):(L.map (pay a)).sum=due ps R (kids L 0) (a 0):=by
 have e:=due_parts (ps:=ps) (R:=R) (a:=a) H
 have e2:(L.map fun h=>mv ps (R h.1) (a h.2.1) h.2.2)=L.map fun h=>pay a h+due ps R (kids L h.1) (a h.1):=List.map_congr_left fun h hh=>by rw[ha h hh,pay_mv]
 have s:=sum_add (l:=L) (f:=fun h=>pay a h+due ps R (kids L h.1) (a h.1)) (g:=pay a) (h:=fun h=>due ps R (kids L h.1) (a h.1)) fun _ _=>rfl
 rw[e2]at e
 omega
theorem tab_one{R':Int->List (Option Int)}(H:Hang n ties L)(T:Tab n ps L R)(T':Tab n ps L R')(ne:ps≠[]){v:Int}(v0:0<=v)(v1:v<n):R v=R' v:=by
 obtain⟨B,mem⟩:=subs_sub (v:=v) H
 have rg:∀ c∈v :: (subs v L).map (·.1),0<=c/\c<n:=fun c hc=>by
  rcases List.mem_cons.mp hc with e | e
  ·rw[e];exact⟨v0,v1⟩
  ·obtain⟨h,hh,rfl⟩:=List.mem_map.mp e
   exact H.rg h (mem h hh)
 rw[T v v0 v1,T' v v0 v1]
 unfold rowOf
 refine List.map_congr_left fun q _=>?_
 by_cases z:opn ps v q
 ·rw[if_pos z,if_pos z]
  exact congrArg some ((brute (first:=q) B (fun c hc=>T c (rg c hc).1 (rg c hc).2) ne).uniq (brute (first:=q) B (fun c hc=>T' c (rg c hc).1 (rg c hc).2) ne))
 ·rw[if_neg z,if_neg z]
theorem due_small(H:Hang n ties L)(T:Tab n ps L R)(ne:ps≠[]){m:Int}(m0:0<=m)(hm:∀ h∈L,0<=h.2.2/\h.2.2<=m){v q:Int}(v0:0<=v)(v1:v<n):0<=due ps R (kids L v) q/\due ps R (kids L v) q<=n * m:=by
 obtain⟨B,mem⟩:=subs_sub (v:=v) H
 have rg:∀ c∈v :: (subs v L).map (·.1),0<=c/\c<n:=fun c hc=>by
  rcases List.mem_cons.mp hc with e | e
  ·rw[e];exact⟨v0,v1⟩
  ·obtain⟨h,hh,rfl⟩:=List.mem_map.mp e
   exact H.rg h (mem h hh)
 have b:=brute (first:=q) B (fun c hc=>T c (rg c hc).1 (rg c hc).2) ne
 obtain⟨w,_,e⟩:=List.mem_map.mp b.mem
 rw[<- e]
 have nd:=B.nd
 rw[List.nodup_cons]at nd
 have ndS:(subs v L).Nodup:=(List.pairwise_map.mp nd.2).imp fun {a b} ne e=>ne (by rw[e])
 have sl:=le_sub ndS mem
 have ln:=H.len
 have bd:∀ (S:List Ht),(∀ h∈S,0<=h.2.2/\h.2.2<=m)->0<=(S.map (pay w)).sum/\(S.map (pay w)).sum<=(S.length:Int) * m:=by
  intro S
  induction S with
  |nil=>intro _;simp
  |cons h S ih =>
   intro hs
   obtain⟨i1,i2⟩:=ih fun g hg=>hs g (List.mem_cons_of_mem _ hg)
   obtain⟨p1,p2⟩:=hs h (List.mem_cons_self ..)
   have pb:0<=pay w h/\pay w h<=m:=by
    unfold pay
    by_cases z:w h.1=w h.2.1
    ·rw[if_pos z];exact⟨Int.le_refl _,m0⟩
    ·rw[if_neg z];exact⟨p1,p2⟩
   rw[List.map_cons,List.sum_cons,List.length_cons]
   have:((S.length+1:Nat):Int) * m=(S.length:Int) * m+m:=by rw[Int.natCast_add,Int.add_mul];simp
   omega
 obtain⟨b1,b2⟩:=bd (subs v L) fun h hh=>hm h (mem h hh)
 refine⟨b1,Int.le_trans b2 (Int.mul_le_mul_of_nonneg_right (by omega) m0)⟩
end
end Hng
namespace Nar
open L2
open L2
open L2
noncomputable def LR(ps:List Int):Nat->List (List Int)
 | 0=>[[]]
 |j+1=>(LR ps j).flatMap fun r=>(ch ps j).map fun o=>r++[o]
theorem lr_mem{ps:List Int}:∀ {n:Nat}{r:List Int},r∈LR ps n↔r.length=n/\∀ (j:Nat) (h:j<r.length),r[j]∈ch ps j
 | 0,r=>by
  constructor
  ·intro h
   rw[List.mem_singleton.mp h]
   exact⟨rfl,fun j h=>absurd h (Nat.not_lt_zero j)⟩
  ·intro h
   exact List.mem_singleton.mpr (List.length_eq_zero_iff.mp h.1)
 |n+1,r=>by
  constructor
  ·intro h
   obtain⟨r0,h0,h1⟩:=List.mem_flatMap.mp h
   obtain⟨o,ho,rfl⟩:=List.mem_map.mp h1
   obtain⟨l0,a0⟩:=lr_mem.mp h0
   refine⟨by rw[List.length_append,l0];rfl,fun j hj=>?_⟩
   by_cases z:j<r0.length
   ·rw[List.getElem_append_left z]
    exact a0 j z
   ·have ej:j=r0.length:=by
     rw[List.length_append]at hj
     have:([o]:List Int).length=1:=rfl
     omega
    subst ej
    rw[List.getElem_append_right (Nat.le_refl _)]
    simp only[Nat.sub_self,List.getElem_cons_zero]
    rw[l0]
    exact ho
  ·rintro⟨l,a⟩
   have hn:n<r.length:=by omega
   refine List.mem_flatMap.mpr ⟨r.take n,lr_mem.mpr ⟨by rw[List.length_take];omega,fun j hj=>?_⟩,List.mem_map.mpr ⟨r[n],a n hn,?_⟩⟩
   ·rw[List.getElem_take]
    exact a j _
   ·rw[<- List.take_succ_eq_append_getElem hn,List.take_of_length_le (by omega)]
theorem ord_all{n:Nat}{ord:List Int}(pm:ord.Perm ((List.range n).map fun(i:Nat)=>(i:Int))){j:Nat}(h:j<n):(j:Int)∈ord:=pm.mem_iff.mpr (List.mem_map.mpr ⟨j,List.mem_range.mpr h,rfl⟩)
theorem fm_len{α β:Type}{f:α->List β}{c:Nat}:∀ {l:List α},(∀ x∈l,(f x).length=c)->(l.flatMap f).length=l.length * c
 |[],_=>by rw[List.flatMap_nil];simp
 |a :: l,h=>by
  rw[List.flatMap_cons,List.length_append,h a (List.mem_cons_self ..),fm_len (l:=l) fun x hx=>h x (List.mem_cons_of_mem _ hx),List.length_cons,Nat.succ_mul,Nat.add_comm]
theorem rl_len{n:Nat}{ps ord:List Int}{i:Nat}:(RL n ps ord (i+1)).length=(RL n ps ord i).length * (ch ps (ord.getD i 0)).length:=by
 show((RL n ps ord i).flatMap _).length=_
 exact fm_len fun r _=>by rw[List.length_map]
theorem lr_len{ps:List Int}{j:Nat}:(LR ps (j+1)).length=(LR ps j).length * (ch ps j).length:=by
 show((LR ps j).flatMap _).length=_
 exact fm_len fun r _=>by rw[List.length_map]
theorem rl_pow{n:Nat}{ps ord:List Int}(o:OrdN n ord):∀ {i:Nat},i<=n->(RL n ps ord i).length=ps.length ^ ((ord.take i).filter fun p=>decide (p∉ps)).length
 | 0,_=>by rw[List.take_zero];rfl
 |i+1,hi=>by
  obtain⟨_,p0,p1,nm,tk⟩:=o.at (show i<n by omega)
  rw[rl_len,rl_pow o (show i<=n by omega),tk,List.filter_append,List.length_append]
  unfold ch
  by_cases z:ord.getD i 0∈ps
  ·rw[if_pos z,List.filter_cons,if_neg (by simpa using z)]
   show _ * 1=_ ^ (_+0)
   rw[Nat.mul_one,Nat.add_zero]
  ·rw[if_neg z,List.filter_cons,if_pos (by simpa using z)]
   show _=_ ^ (_+1)
   rw[Nat.pow_succ]
theorem non_posts{n:Nat}{ps ord:List Int}(o:OrdN n ord)(al:∀ j:Nat,j<n->(j:Int)∈ord)(nd:ps.Nodup)(rg:∀ x∈ps,0<=x/\x<n):(ord.filter fun p=>decide (p∉ps)).length+ps.length=n:=by
 have e:=List.length_eq_countP_add_countP (fun p=>decide (p∈ps)) (l:=ord)
 rw[o.len,List.countP_eq_length_filter,List.countP_eq_length_filter]at e
 have e1:(ord.filter fun p=>decide (p∈ps)).length=ps.length:=by
  refine List.Perm.length_eq ((List.perm_ext_iff_of_nodup (o.nd.filter _) nd).mpr fun x=>?_)
  rw[List.mem_filter,decide_eq_true_eq]
  constructor
  ·exact fun h=>h.2
  ·intro h
   refine⟨?_,h⟩
   have:=rg x h
   have:=al x.toNat (by omega)
   rw[show((x.toNat:Nat):Int)=x by omega]at this
   exact this
 have e2:(ord.filter fun a=>decide ¬decide (a∈ps)=true)=ord.filter fun p=>decide (p∉ps):=List.filter_congr fun x _=>by simp
 rw[e1,e2]at e
 omega
theorem upn(n:Nat):OrdN n ((List.range n).map fun(i:Nat)=>(i:Int)):=by
 refine⟨List.Pairwise.map _ (fun a b ne e=>ne (by omega)) List.nodup_range,by rw[List.length_map,List.length_range],fun p hp=>?_⟩
 obtain⟨i,hi,rfl⟩:=List.mem_map.mp hp
 have:=List.mem_range.mp hi
 omega
theorem lr_rl{n:Nat}{ps:List Int}:∀ {j:Nat},j<=n->(LR ps j).length=(RL n ps ((List.range n).map fun(i:Nat)=>(i:Int)) j).length
 | 0,_=>rfl
 |j+1,h=>by
  rw[lr_len,rl_len,lr_rl (show j<=n by omega)]
  congr 3
  rw[List.getD_eq_getElem?_getD,List.getElem?_map,List.getElem?_range (by omega)]
  rfl
end Nar
namespace L2
open PySem PySem.W PyProof.Rows
theorem comp_enumB{b:Bool}{K:PySem.W.Frag}{l:Addr}{xs:List V}{g:TG}{tc:TT}{te:TE}{cap:List (Option Nat)}{σ:St}{H1:Hp}{Q:VK}(P:Nat->List V->Hp->Prop)(hz:xs.length<=sizeLine)(p0:P 0 [] H1)(hl:∀ i ys H,i<=xs.length->P i ys H->SqB b K H l xs)
  (hs:∀ i x zs H T,xs[i]?=some x->P i zs H->H T=none->g (.ref T) (capt cap σ) (upd H T (.tup [.int i,x])) fun σ2 H2=>Kp (capt cap σ) σ2/\tc σ2 H2 fun z H3=>if z=true then te σ2 H3 fun y H4=>P (i+1) (zs++[y]) H4 else P (i+1) zs H3)
  (hd:∀ zs H,zs.length<=xs.length->P xs.length zs H->∀ D,H D=none->Q (.ref D) (upd H D (.lst zs))):compTurns (IteB b K l) cap σ H1 Q g tc te:=by
 refine⟨xs.length,P,hz,p0,fun i zs H yl il p=>?_⟩
 have q:=hl i zs H il p
 by_cases hlt:i<xs.length
 ·refine .inr ⟨hlt,⟨xs,xs[i],q,by simp[hlt]⟩,fun x H' y=>?_⟩
  obtain⟨T,x',e1,hT,e2,y⟩:=y
  subst e1
  subst e2
  exact hs i x' zs H T (y xs q) p hT
 ·have e:i=xs.length:=by omega
  subst e
  exact .inl ⟨⟨xs,q,Nat.le_refl _⟩,hd zs H yl p⟩
end L2
namespace K40
open PySem L2 PyProof.Rows
open Hng (Ht Hang kids Met Lst mn lo mv due rowOf Tab opn Told Part toTie tpay)
open Nar (ch LR)
theorem chooseAt{q:Addr}{H:Hp}{ps:List Int}{pc:Int}{m1 m5:Nat}{σ:L2.St}{Q:VK}(gq:H q=some (.lst (ps.map V.int)))(e1:σ[m1]?=some (some (.ref q)))(e5:σ[m5]?=some (some (.int pc)))(h:∀ (cl:Addr) (G:Hp),Same H G->G cl=some (.lst ((ch ps pc).map V.int))->Q (.ref cl) G) :
  rInQ false false (.int pc) (.ref q) H fun x H'=>∃ k,x = .bl k/\(fun c H1=>if c=true then tLst (tCons (tVar m5) tNil) σ H1 Q else tVar m1 σ H1 Q) k H':=by
 refine⟨q,_,rfl,gq,rfl,flat_ints _,_,rfl,?_⟩
 show if inV (.int pc) (ps.map V.int)=true then _ else _
 rw[inV_dec]
 by_cases z:pc∈ps
 ·rw[decide_eq_true z,if_pos rfl]
  refine⟨_,e5,(by show 1<=sizeLine;decide),fun l hl=>h l _ (Same.new hl) ?_⟩
  rw[upd_same]
  unfold ch
  rw[if_pos z]
  rfl
 ·rw[decide_eq_false z,if_neg Bool.false_ne_true]
  refine⟨_,e1,h q _ (Same.refl _) ?_⟩
  unfold ch
  rw[if_neg z]
  exact gq
theorem at_int{r:List Int}{f:Int}(h0:0<=f)(h:f.toNat<r.length):atI (r.map V.int) f=some (V.int r[f.toNat]):=by
 have e:f=((f.toNat:Nat):Int):=by omega
 have:=atI_nat (xs:=r.map V.int) (j:=f.toNat) (v:=V.int r[f.toNat]) (by rw[List.getElem?_map,List.getElem?_eq_getElem h];rfl)
 rw[<- e]at this
 exact this
theorem fm_take{α β:Type}(f:α->List β)(l:List α)(k:Nat):((l.take k).flatMap f).length<=(l.flatMap f).length:=by
 have e:l.flatMap f=(l.take k++l.drop k).flatMap f:=by rw[List.take_append_drop]
 rw[e,List.flatMap_append,List.length_append]
 omega
theorem PairedA{α β:Type}{F:α->β->Prop}{a a':List α}{b b':List β}(h:Paired F a b)(h':Paired F a' b'):Paired F (a++a') (b++b'):=by
 induction h with
 |nil=>exact h'
 |cons r _ ih=>exact .cons r ih
theorem tp_eq{r:List Int}{u v c:Int}(hu:u.toNat<r.length)(hv:v.toNat<r.length):tpay (fun v=>r.getD v.toNat 0) (u,v,c)=if r[u.toNat]=r[v.toNat]then 0 else c:=by
 unfold tpay
 show(if r.getD u.toNat 0=r.getD v.toNat 0 then 0 else c)=_
 rw[List.getD_eq_getElem?_getD,List.getD_eq_getElem?_getD,List.getElem?_eq_getElem hu,List.getElem?_eq_getElem hv]
 rfl
theorem ch_le{ps:List Int}(h:ps.length<=6)(p:Int):(ch ps p).length<=6:=by
 unfold ch
 by_cases z:p∈ps
 ·rw[if_pos z];show 1<=6;decide
 ·rw[if_neg z];exact h
noncomputable def IRow(H:Hp)(a:Addr)(r:List Int):Prop:=H a=some (.tup (r.map V.int))
noncomputable def spCo:Sp:=fun vs H Q _=>∃ (t o:Addr) (n:Nat) (ties:List Tie) (r:List Int),vs=[.ref t,.ref o]/\WebAt H t n ties/\(∀ x∈ties,TieOk n x)/\H o=some (.tup (r.map V.int))/\r.length=n/\∀ H',Same H H'->Q (.int ((ties.map (tpay fun v=>r.getD v.toNat 0)).sum)) H'
noncomputable def spRo:Sp:=fun vs H Q _=>∃ (t q:Addr) (n:Nat) (ties:List Tie) (ps:List Int),vs=[.ref t,.ref q]/\WebAt H t n ties/\n<=30/\H q=some (.lst (ps.map V.int))/\(∀ j,j<=n->(LR ps j).length<=1100)/\ps.length<=6 /\
 ∀ (l:Addr) (as:List Addr) (H':Hp),H' l=some (.lst (as.map V.ref))->Paired (IRow H') as (LR ps n)->Same H H'->Q (.ref l) H'
noncomputable def spCn:Sp:=fun vs H Q _=>∃ (t q:Addr) (n:Nat) (ties:List Tie) (ps:List Int),vs=[.ref t,.ref q]/\WebAt H t n ties/\n<=30/\H q=some (.lst (ps.map V.int))/\ps.length<=6/\∀ H',Same H H'->Q (.int ((ps.length:Int) ^ (n-ps.length))) H'
section
variable{P:Program}{w:World}{K:PySem.W.Frag}{mg:Str->Option Value}{base:Heap}
noncomputable abbrev nCo:List Str:=["_law_web","_law_owners"]
theorem scCo:FnScope nCo ["_law_web","_law_owners"] (defScope sCost):=⟨rfl,rfl,rfl,by decide +kernel,rfl,by decide +kernel,by decide +kernel⟩
theorem csCo1:CompScope ["_law_a","_law_b","_law_weight_here","_law_owners"] [none,none,none,some 1] nCo (defScope sCost) (scO [(".0",.local),("_law_a",.local),("_law_b",.local),("_law_weight_here",.local),("_law_owners",.free)]):=⟨rfl,by decide +kernel,by decide +kernel,by decide +kernel,rfl,capB_ok (by decide +kernel)⟩
theorem ndCo1:(["_law_a","_law_b","_law_weight_here","_law_owners"]:List Str).Nodup:=by decide +kernel
theorem ok_co{f:Addr}{fd:FuncData}(F:Fun K "_law_cost" "_law_cost" sCost f fd)(T:Txt mg):FnOk P w K mg base CX0 1 f fd ["_law_web","_law_owners"] spCo:=by
 refine F.ok scCo (fun vs H Q E h=>?_) (fun cdv A outer s H vs Q E hr h=>?_)
 ·obtain⟨t,o,n,ties,r,rfl,_⟩:=h
  rfl
 ·obtain⟨t,o,n,ties,r,rfl,W,ok,ho,rl,fin⟩:=h
  obtain⟨⟨ts,bs,h1,h2,h3⟩,len⟩:=id W
  have h3l:bs.length=ties.length:=h3.length
  refine⟨_,(pss_one (ps_ret (pe_callB (call_sumH rfl) (by rfl) T.sum boot_sum (@pa_comp _ _ _ _ _ _ _ _ (pe_comp rfl csCo1 (pi_tup (@pe_ix _ _ _ _ _ _ _ ix_tupH (pv 0) pe_int (fun _ _=>rfl))) (fun C s H fp=>(pg_tupK K rfl (n:=3) rfl (pgs_cons (pg_name (i:=0) ndCo1 rfl (Or.inl rfl)) (pgs_cons (pg_name (i:=1) ndCo1 rfl (Or.inl rfl)) (pgs_cons (pg_name (i:=2) ndCo1 rfl (Or.inl rfl)) pgs_nil))) rfl rfl)) (fun C s H fp=>(pf_one (pt_cmpR op_ne (@pe_ix _ _ _ _ _ _ _ ix_tupH (pv 3) (pv 0) (fun _ _=>rfl)) (@pe_ix _ _ _ _ _ _ _ ix_tupH (pv 3) (pv 1) (fun _ _=>rfl)) (nomark _)))) (fun C s H fp=>(pv 2))) pa_nil)))),?_⟩
  refine⟨_,rfl,t,_,_,_,rfl,rfl,h1,atI_nat (j:=1) rfl,ts,rfl,⟨_,SqT.of h2⟩,?_⟩
  refine comp_tup (K:=K) (a:=ts) (xs:=bs.map V.ref) (fun i zs G=>Same H G/\∃ ws:List Int,zs=ws.map V.int/\ws.sum=((ties.take i).map (tpay fun v=>r.getD v.toNat 0)).sum) (by rw[List.length_map,sizeLine_eq];lia) ⟨Same.refl _,[],rfl,rfl⟩ (fun i zs G _ z=>SqT.of (z.1 _ _ h2)) ?_ ?_
  ·rintro i x zs G hx ⟨sG,ws,rfl,sw⟩
   obtain⟨il,e⟩:=List.getElem?_eq_some_iff.mp hx
   rw[List.length_map]at il
   rw[List.getElem_map]at e
   subst e
   have it:i<ties.length:=by lia
   have gx:=sG _ _ (Paired.at h3 i il it)
   have okx:=ok _ (List.getElem_mem it)
   have tk:((ties.take (i+1)).map (tpay fun v=>r.getD v.toNat 0)).sum=((ties.take i).map (tpay fun v=>r.getD v.toNat 0)).sum+tpay (fun v=>r.getD v.toNat 0) ties[i]:=by
    rw[List.take_succ_eq_append_getElem it,List.map_append,List.sum_append,List.map_singleton,List.sum_singleton]
   rw[tk]
   generalize ties[i]=x at *
   obtain⟨u,v,c⟩:=x
   obtain⟨o1,o2,o3,o4,_⟩:=id okx
   have o1:0<=u:=o1
   have o2:u<v:=o2
   have o3:v<n:=o3
   have ul:u.toNat<r.length:=by lia
   have vl:v.toNat<r.length:=by lia
   rw[tp_eq ul vl]
   refine⟨bs[i],_,rfl,SqT.of gx,rfl,_,_,rfl,_,_,rfl,_,_,rfl,rfl,⟨rfl,trivial⟩,?_⟩
   refine⟨_,rfl,_,rfl,o,_,_,_,rfl,rfl,sG _ _ ho,at_int o1 ul,_,rfl,_,rfl,o,_,_,_,rfl,rfl,sG _ _ ho,at_int (by lia) vl,rfl,_,rfl,?_⟩
   generalize r[u.toNat]=y1 at *
   generalize r[v.toNat]=y2 at *
   refine ite2 (fun h=>?_) (fun h=>?_)
   ·have ne:¬ y1=y2:=fun z=>by
     have:decide (V.int y1=V.int y2)=true:=decide_eq_true (by rw[z])
     have h:(!decide (V.int y1=V.int y2))=true:=h
     rw[this]at h
     cases h
    refine⟨_,rfl,sG,ws++[c],by rw[List.map_append];rfl,?_⟩
    rw[if_neg ne,List.sum_append,List.sum_singleton,sw]
   ·have e:y1=y2:=by
     by_cases z:V.int y1=V.int y2
     ·injection z
     ·exact absurd (by show(!decide (V.int y1=V.int y2))=true;rw[decide_eq_false z];rfl) h
    refine⟨sG,ws,rfl,?_⟩
    rw[if_pos e,sw]
    lia
  ·rintro zs G _ ⟨sG,ws,rfl,sw⟩ D hD
   rw[List.length_map,h3l,List.take_length]at sw
   refine⟨D,_,rfl,upd_same,?_⟩
   rw[sw]
   exact fin _ (sG.trans (Same.new hD))
noncomputable abbrev nRo:List Str:=["_law_web","_law_posts_here","_law_rows_here","_law_place","_law_longer","_law_row"]
theorem scRo:FnScope nRo ["_law_web","_law_posts_here"] (defScope sRows):=⟨rfl,rfl,rfl,by decide +kernel,rfl,by decide +kernel,by decide +kernel⟩
theorem csRo1:CompScope ["_law_owner","_law_row"] [none,some 5] nRo (defScope sRows) (scO [(".0",.local),("_law_owner",.local),("_law_row",.free)]):=⟨rfl,by decide +kernel,by decide +kernel,by decide +kernel,rfl,capB_ok (by decide +kernel)⟩
theorem ndRo1:(["_law_owner","_law_row"]:List Str).Nodup:=by decide +kernel
theorem ok_ro{f:Addr}{fd:FuncData}(F:Fun K "_law_rows" "_law_rows" sRows f fd)(T:Txt mg):FnOk P w K mg base CX0 1 f fd ["_law_web","_law_posts_here"] spRo:=by
 refine F.ok scRo (fun vs H Q E h=>?_) (fun cdv A outer s H vs Q E hr h=>?_)
 ·obtain⟨t,q,n,ties,ps,rfl,_⟩:=h
  rfl
 ·obtain⟨t,q,n,ties,ps,rfl,W,n30,gq,few,pl6,fin⟩:=h
  obtain⟨⟨ts,bs,h1,h2,h3⟩,len⟩:=id W
  refine⟨_,(pss_cons (ps_set (i:=2) scRo.nd rfl (Or.inl rfl) (@pe_lst _ _ _ _ (@pa_tup _ _ _ _ _ _ _ (@pe_tup _ _ _ _ _ pa_nil) pa_nil)))
   (pss_cons (ps_for PassesOwn.never rfl (pi_range1 rfl T.range (@pa_sub _ _ _ _ _ _ _ (@pe_ix _ _ _ _ _ _ _ ix_tupH (pv 0) pe_int (fun _ _=>rfl)) pa_nil)) (pg_name (i:=3) scRo.nd rfl (Or.inl rfl))
   (pss_cons (ps_set (i:=4) scRo.nd rfl (Or.inl rfl) (@pe_lst _ _ _ _ pa_nil))
   (pss_cons (ps_for PassesOwn.never rfl (pi_list (pv 2)) (pg_name (i:=5) scRo.nd rfl (Or.inr rfl))
   (pss_one (ps_expr (pe_bmH PySem.F.slot_list_extend PySem.F.type_list_extend mt_extend (pv 4) (@pa_comp _ _ _ _ _ _ _ _ (pe_comp rfl csRo1 (pi_list (pe_ifExp (pt_cmpR op_inH (pv 3) (pv 1) rfl) (@pe_lst _ _ _ _ (@pa_nam _ _ _ _ _ _ (pv 3) pa_nil)) (pv 1))) (fun C s H fp=>(pg_name (i:=0) ndRo1 rfl (Or.inl rfl))) (fun C s H fp=>pf_nil) (fun C s H fp=>(pe_op op_catB (pv 1) (@pe_tup _ _ _ _ _ (@pa_nam _ _ _ _ _ _ (pv 0) pa_nil))))) pa_nil)))))
   (pss_one (ps_set (i:=2) scRo.nd rfl (Or.inl rfl) (pv 4))))))
   (pss_one (ps_ret (pv 2))))),?_⟩
  refine⟨(by show 0<=sizeLine;decide),fun e0 he0=>⟨(by show 1<=sizeLine;decide),fun rl hrl=>?_⟩⟩
  have s1:=(Same.new (o:=.tup []) he0).trans (Same.new (o:=.lst [.ref e0]) hrl)
  have ge:(upd (upd H e0 (.tup [])) rl (.lst [.ref e0])) e0=some (.tup []):=(Same.new hrl) _ _ upd_same
  have gr:(upd (upd H e0 (.tup [])) rl (.lst [.ref e0])) rl=some (.lst [.ref e0]):=upd_same
  generalize (upd (upd H e0 (.tup [])) rl (.lst [.ref e0]))=H1 at s1 ge gr
  refine⟨_,rfl,t,_,_,_,rfl,rfl,s1 _ _ h1,atI_nat (j:=0) rfl,_,rfl,by omega,by omega,?_⟩
  rw[show((n:Int)).toNat=n by omega]
  refine for_range (lo:=0) (n:=n) (fun j σ G=>∃ (rl:Addr) (as:List Addr) (v3 v4 v5:Option V),σ=[some (.ref t),some (.ref q),some (.ref rl),v3,v4,v5]/\Same H G/\G rl=some (.lst (as.map V.ref))/\Paired (IRow G) as (LR ps j)) ⟨rl,[e0],_,_,_,rfl,s1,gr,.cons ge .nil⟩ ?_ ?_
  ·rintro j σ G hj ⟨rl,as,v3,v4,v5,rfl,sG,gr,pa⟩
   have al:=pa.length
   refine⟨(by show 0<=sizeLine;decide),fun lo hlo=>?_⟩
   rw[Int.zero_add]
   have fewj:=few (j+1) hj
   have fl:(LR ps (j+1))=(LR ps j).flatMap fun r=>(ch ps j).map fun o=>r++[o]:=rfl
   rw[fl]at fewj ⊢
   have sl:=Same.new (o:=.lst []) hlo
   refine⟨_,rfl,rl,rfl,⟨_,SqL.of (sl _ _ gr)⟩,?_⟩
   refine for_list (K:=K) (a:=rl) (xs:=as.map V.ref) (fun i σ G2=>∃ (bs:List Addr) (v5:Option V),σ=[some (.ref t),some (.ref q),some (.ref rl),some (.int j),some (.ref lo),v5]/\Same G G2/\G2 lo=some (.lst (bs.map V.ref))/\Paired (IRow G2) bs (((LR ps j).take i).flatMap fun r=>(ch ps j).map fun o=>r++[o])) ⟨[],_,rfl,sl,upd_same,.nil⟩ (fun i σ G2 _ z=>by obtain⟨_,_,_,s,_⟩:=z;exact SqL.of (s _ _ gr)) ?_ ?_
   ·rintro i x σ G2 hx ⟨bs,v5,rfl,sG2,glo,pb⟩
    obtain⟨il,e⟩:=List.getElem?_eq_some_iff.mp hx
    rw[List.length_map]at il
    rw[List.getElem_map]at e
    subst e
    have it:i <(LR ps j).length:=by omega
    have ga:=sG2 _ _ (Paired.at pa i il it)
    have rlen:=(Nar.lr_mem.mp (List.getElem_mem it)).1
    rw[List.take_succ_eq_append_getElem it,List.flatMap_append,List.flatMap_singleton]
    have bl:=pb.length
    have bl2:bs.length<=1100:=by
     rw[bl]
     exact Nat.le_trans (fm_take _ _ _) fewj
    generalize (LR ps j)[i]=r at *
    generalize as[i]=a at *
    have gq2:G2 q=some (.lst (ps.map V.int)):=sG2 _ _ (sG _ _ gq)
    refine⟨_,rfl,⟨lo,_,rfl,glo⟩,_,rfl,_,rfl,chooseAt gq2 rfl rfl fun cl G3 s3 gc=>?_⟩
    refine⟨cl,rfl,⟨_,SqL.of gc⟩,?_⟩
    have cle:=ch_le pl6 j
    refine comp_list (K:=K) (a:=cl) (xs:=(ch ps j).map V.int) (fun k zs G4=>Same G3 G4/\∃ cs:List Addr,zs=cs.map V.ref/\Paired (IRow G4) cs (((ch ps j).take k).map fun o=>r++[o])) (by rw[List.length_map,sizeLine_eq];omega) ⟨Same.refl _,[],rfl,.nil⟩ (fun k zs G4 _ z=>SqL.of (z.1 _ _ gc)) ?_ ?_
    ·rintro k x zs G4 hx ⟨s4,cs,rfl,pc⟩
     obtain⟨kl,e⟩:=List.getElem?_eq_some_iff.mp hx
     rw[List.length_map]at kl
     rw[List.getElem_map]at e
     subst e
     rw[List.take_succ_eq_append_getElem kl,List.map_append]
     generalize (ch ps j)[k]=o at *
     refine⟨⟨rfl,trivial⟩,_,rfl,_,rfl,(by show 1<=sizeLine;decide),fun c2 h2=>?_⟩
     have sc:=Same.new (o:=.tup [.int o]) h2
     refine⟨a,c2,_,_,rfl,rfl,sc _ _ (s4 _ _ (s3 _ _ ga)),upd_same,by rw[List.length_map,rlen,sizeLine_eq];show _+1<=_;omega,fun p G5 s5 gp=>?_⟩
     refine⟨s4.trans (sc.trans s5),cs++[p],by rw[List.map_append];rfl,Paired.snoc (Paired.mapP pc fun _ _ h=>s5 _ _ (sc _ _ h)) ?_⟩
     show G5 p=some (.tup ((r++[o]).map V.int))
     rw[gp,List.map_append]
     rfl
    ·rintro zs G4 _ ⟨s4,cs,rfl,pc⟩ D hD
     rw[List.length_map,List.take_length]at pc
     have sD:=Same.new (o:=.lst (cs.map V.ref)) hD
     have cl2:=pc.length
     rw[List.length_map]at cl2
     have glo4:=sD _ _ (s4 _ _ (s3 _ _ glo))
     refine⟨lo,D,_,_,rfl,rfl,glo4,upd_same,by rw[List.length_map,List.length_map,sizeLine_eq];omega,?_⟩
     have s24:=s3.trans (s4.trans sD)
     refine⟨bs++cs,_,rfl,same_put (sG2.trans s24) hlo,by rw[upd_same,List.map_append],?_⟩
     have nt:∀ {b:Addr}{r:List Int},IRow (upd G4 D (.lst (cs.map V.ref))) b r->IRow (upd (upd G4 D (.lst (cs.map V.ref))) lo (.lst (bs.map V.ref++cs.map V.ref))) b r:=fun {b r} h=>by
      unfold IRow at *
      rw[upd_ne (fun z=>by rw[z,glo4]at h;cases h)]
      exact h
     exact PairedA (Paired.mapP pb fun _ _ h=>nt (s24 _ _ h)) (Paired.mapP pc fun _ _ h=>nt (sD _ _ h))
   ·rintro σ G2 ⟨bs,v5,rfl,sG2,glo,pb⟩
    rw[List.length_map,al,List.take_length]at pb
    exact⟨_,rfl,lo,bs,_,_,_,rfl,sG.trans sG2,glo,pb⟩
  ·rintro σ G ⟨rl,as,v3,v4,v5,rfl,sG,gr,pa⟩
   exact⟨_,rfl,fin rl as G gr pa sG⟩
noncomputable abbrev nCn:List Str:=["_law_web","_law_posts_here","_law_found","_law_turn"]
theorem scCn:FnScope nCn ["_law_web","_law_posts_here"] (defScope sCount):=⟨rfl,rfl,rfl,by decide +kernel,rfl,by decide +kernel,by decide +kernel⟩
theorem ok_cn{f:Addr}{fd:FuncData}(F:Fun K "_law_count" "_law_count" sCount f fd)(T:Txt mg):FnOk P w K mg base CX0 1 f fd ["_law_web","_law_posts_here"] spCn:=by
 refine F.ok scCn (fun vs H Q E h=>?_) (fun cdv A outer s H vs Q E hr h=>?_)
 ·obtain⟨t,q,n,ties,ps,rfl,_⟩:=h
  rfl
 ·obtain⟨t,q,n,ties,ps,rfl,W,n30,gq,p6,fin⟩:=h
  obtain⟨⟨ts,bs,h1,h2,h3⟩,len⟩:=id W
  refine⟨_,(pss_cons (ps_set (i:=2) scCn.nd rfl (Or.inl rfl) pe_int)
   (pss_cons (ps_for PassesOwn.never rfl (pi_range1 rfl T.range (@pa_bin _ _ _ _ _ _ _ _ (pe_op op_sub (@pe_ix _ _ _ _ _ _ _ ix_tupH (pv 0) pe_int (fun _ _=>rfl)) (pe_callB call_lenH (by rfl) T.len PySem.boot_len (@pa_nam _ _ _ _ _ _ (pv 1) pa_nil))) pa_nil)) (pg_name (i:=3) scCn.nd rfl (Or.inl rfl))
   (pss_one (ps_set (i:=2) scCn.nd rfl (Or.inl rfl) (pe_op op_mul (pv 2) (pe_callB call_lenH (by rfl) T.len PySem.boot_len (@pa_nam _ _ _ _ _ _ (pv 1) pa_nil))))))
   (pss_one (ps_ret (pv 2))))),?_⟩
  refine⟨_,rfl,t,_,_,_,rfl,rfl,h1,atI_nat (j:=0) rfl,_,rfl,q,_,rfl,gq,_,_,rfl,rfl,_,rfl,by rw[List.length_map];omega,by rw[List.length_map];omega,?_⟩
  rw[List.length_map,show((n:Int)-(ps.length:Int)).toNat=n-ps.length by omega]
  refine for_range (lo:=0) (n:=n-ps.length) (fun j σ G=>∃ (v3:Option V),σ=[some (.ref t),some (.ref q),some (.int ((ps.length:Int) ^ j)),v3]/\Same H G) ⟨_,rfl,Same.refl _⟩ ?_ ?_
  ·rintro j σ G hj ⟨v3,rfl,sG⟩
   refine⟨_,rfl,_,rfl,q,_,rfl,sG _ _ gq,_,_,rfl,rfl,.inr ⟨by rw[List.length_map];omega,by rw[List.length_map];omega⟩,some (.int (0+(j:Int))),?_,sG⟩
   show [some (V.ref t),some (V.ref q),some (V.int ((ps.length:Int) ^ j * ((ps.map V.int).length:Int))),some (V.int (0+(j:Int)))]=_
   rw[List.length_map,<- Int.pow_succ]
  ·rintro σ G ⟨v3,rfl,sG⟩
   exact⟨_,rfl,fin _ sG⟩
end
open PySem L2 PyProof.Rows
open Hng (Ht Hang kids Met Lst mn lo mv due rowOf Tab opn Told Part toTie tpay)
open Nar (ch LR)
structure TreeOk(n:Nat)(ties:List Tie):Prop where
 ok:∀ x∈ties,TieOk n x
 n30:n<=30
 n1:1<=n
 tr:Flw.Tree n ties
 nt:ties.Nodup
 len:ties.length+1=n
noncomputable def spTa:Sp:=fun vs H Q _=>∃ (t q:Addr) (n:Nat) (ties:List Tie) (ps:List Int),vs=[.ref t,.ref q]/\WebAt H t n ties/\TreeOk n ties/\H q=some (.lst (ps.map V.int))/\ps.Nodup/\ps≠[]/\ps.length<=6 /\
 ∀ (tb:Addr) (F:Int->List (Option Int)) (L:List Ht) (H':Hp),TabAt H' tb n F->Hang n ties L->Tab n ps L F->Same H H'->Q (.ref tb) H'
theorem cut1(xs:List V)(x:V):cutV (x :: xs) (some 1) none=xs:=by
 unfold cutV
 rw[show(1:Int)=((1:Nat):Int)from rfl,HT.sIx_nat,HT.sIx_none,List.length_cons]
 rw[Nat.min_eq_left (by omega)]
 show(xs.take _)=xs
 exact List.take_of_length_le (by omega)
theorem kids_drop{L:List Ht}{k:Nat}(hk:k<L.length)(v:Int):kids (L.drop k) v=(if L[k].2.1=v then [(L[k].1,L[k].2.2)]else [])++kids (L.drop (k+1)) v:=by
 unfold kids
 rw[List.drop_eq_getElem_cons hk,List.filter_cons]
 by_cases z:L[k].2.1=v
 ·rw[if_pos (decide_eq_true z),if_pos z];rfl
 ·rw[if_neg (fun w=>z (of_decide_eq_true w)),if_neg z];rfl
theorem fold_step{n:Nat}{ties:List Tie}{L:List Ht}{ps:List Int}{F:Int->List (Option Int)}(HG:Hang n ties L){k:Nat}(hk:k<L.length)(inv:∀ v:Int,0<=v->v<n->F v=rowOf ps F v (kids (L.drop (k+1)) v)) :
  ∀ v:Int,0<=v->v<n->(fun u=>if u=L[k].2.1 then ps.map (fun q=>if opn ps L[k].2.1 q then some (due ps F (kids (L.drop (k+1)) L[k].2.1) q+mv ps (F L[k].1) q L[k].2.2)else none)else F u) v=rowOf ps (fun u=>if u=L[k].2.1 then ps.map (fun q=>if opn ps L[k].2.1 q then some (due ps F (kids (L.drop (k+1)) L[k].2.1) q+mv ps (F L[k].1) q L[k].2.2)else none)else F u) v (kids (L.drop k) v):=fun v v0 v1=>by
 have nd:=HG.nd
 rw[List.nodup_cons]at nd
 have ne:∀ x∈kids (L.drop k) v,x.1≠L[k].2.1:=fun x hx e=>by
  obtain⟨g,hg,_,e2,_⟩:=Hng.kid_of hx
  obtain⟨j,hj,rfl⟩:=List.getElem_of_mem hg
  rw[List.length_drop]at hj
  rw[List.getElem_drop]at e2
  rcases List.mem_cons.mp (HG.up k hk)with y | y
  ·exact(HG.ne (List.getElem_mem (show k+j<L.length by omega))).1 (by rw[e2,e,y])
  ·obtain⟨g',hg',eg⟩:=List.mem_map.mp y
   obtain⟨i,hi,rfl⟩:=List.getElem_of_mem hg'
   rw[List.length_take]at hi
   rw[List.getElem_take]at eg
   have:=Hng.fst_inj nd.2 (i:=i) (j:=k+j) (by omega) (by omega) (by rw[eg,e2,e])
   omega
 have cg:=Hng.row_congr (ps:=ps) (R:=F) (R':=fun u=>if u=L[k].2.1 then ps.map (fun q=>if opn ps L[k].2.1 q then some (due ps F (kids (L.drop (k+1)) L[k].2.1) q+mv ps (F L[k].1) q L[k].2.2)else none)else F u) (v:=v) (ks:=kids (L.drop k) v) fun x hx=>by
  show F x.1=if x.1=L[k].2.1 then _ else F x.1
  rw[if_neg (ne x hx)]
 rw[<- cg]
 show(if v=L[k].2.1 then _ else F v)=_
 by_cases z:v=L[k].2.1
 ·rw[if_pos z,<- z,kids_drop hk v,if_pos z.symm]
  unfold rowOf
  refine List.map_congr_left fun q _=>?_
  have e:due ps F ([(L[k].1,L[k].2.2)]++kids (L.drop (k+1)) v) q=due ps F (kids (L.drop (k+1)) v) q+mv ps (F L[k].1) q L[k].2.2:=by
   unfold due
   rw[List.map_append,List.sum_append,List.map_singleton,List.sum_singleton]
   exact Int.add_comm _ _
  rw[e]
 ·rw[if_neg z,inv v v0 v1,kids_drop hk v,if_neg (fun y=>z y.symm)]
  rfl
noncomputable def mix(a b:List (Option Int))(m:Nat):List (Option Int):=a.take m++b.drop m
theorem mix_len{a b:List (Option Int)}{m:Nat}(e:a.length=b.length)(h:m<=b.length):(mix a b m).length=b.length:=by
 unfold mix
 rw[List.length_append,List.length_take,List.length_drop]
 omega
theorem mix_at{a b:List (Option Int)}{m:Nat}(e:a.length=b.length)(h:m<b.length):(mix a b m)[m]?=some b[m]:=by
 unfold mix
 rw[List.getElem?_append_right (by rw[List.length_take];omega),List.length_take,show m-min m a.length=0 by omega,List.getElem?_drop]
 exact List.getElem?_eq_getElem h
theorem mix_set{a b:List (Option Int)}{m:Nat}(e:a.length=b.length)(h:m<b.length):(mix a b m).set m (a[m]'(by omega))=mix a b (m+1):=by
 unfold mix
 rw[List.set_append_right _ _ (by rw[List.length_take];omega),List.length_take,show m-min m a.length=0 by omega,List.drop_eq_getElem_cons h,List.set_cons_zero,List.take_succ_eq_append_getElem (by omega:m<a.length),List.append_assoc]
 rfl
theorem mix_same{a b:List (Option Int)}{m:Nat}(e:a.length=b.length)(h:m<b.length)(s:a[m]'(by omega)=b[m]):mix a b m=mix a b (m+1):=by
 unfold mix
 rw[List.take_succ_eq_append_getElem (by omega:m<a.length),List.append_assoc,s,List.drop_eq_getElem_cons h]
 rfl
section
variable{P:Program}{w:World}{K:PySem.W.Frag}{mg:Str->Option Value}{base:Heap}
noncomputable abbrev nTa:List Str:=["_law_web","_law_posts_here","_law_rows_here","_law_place","_law_above","_law_weight_here","_law_at","_law_costs"]
theorem scTa:FnScope nTa ["_law_web","_law_posts_here"] (defScope sTable):=⟨rfl,rfl,rfl,by decide +kernel,rfl,by decide +kernel,by decide +kernel⟩
theorem csTa1:CellScope "_law_place" ["_law_place","_law_posts_here"] [none,some 1] nTa (defScope sTable) (scO [(".0",.local),("_law_place",.cell),("_law_posts_here",.free)]):=⟨rfl,fun _ _=>rfl,fun _=>rfl,by decide +kernel,by decide +kernel,by decide +kernel,by decide +kernel,rfl,capB_ok (by decide +kernel)⟩
theorem ndTa1:(["_law_place","_law_posts_here"]:List Str).Nodup:=by decide +kernel
theorem csTa2:CompScope ["_law_post","_law_place","_law_posts_here"] [none,some 0,some 1] ["_law_place","_law_posts_here"] (scO [(".0",.local),("_law_place",.cell),("_law_posts_here",.cell)]) (scO [(".0",.local),("_law_post",.local),("_law_place",.free),("_law_posts_here",.free)]):=⟨rfl,by decide +kernel,by decide +kernel,by decide +kernel,rfl,capB_ok (by decide +kernel)⟩
theorem ndTa2:(["_law_post","_law_place","_law_posts_here"]:List Str).Nodup:=by decide +kernel
noncomputable abbrev teTa2(K:PySem.W.Frag):TE:=tComp [none,some 0,some 1] (iList K (tVar 1)) (gName 0) tTru (tIf (tOr (tTest (tOp (rInQ false true) (tVar 1) (tVar 2))) (tTest (tOp rEq (tVar 1) (tVar 0)))) (tC (.int 0)) (tC .non))
theorem csTa3:CompScope ["_law_k","_law_cost_here","_law_weight_here","_law_at"] [none,none,some 5,some 6] nTa (defScope sTable) (scO [(".0",.local),("_law_k",.local),("_law_cost_here",.local),("int",.globalImplicit),("_law_at",.free),("_law_weight_here",.free)]):=⟨rfl,by decide +kernel,by decide +kernel,by decide +kernel,rfl,capB_ok (by decide +kernel)⟩
theorem ndTa3:(["_law_k","_law_cost_here","_law_weight_here","_law_at"]:List Str).Nodup:=by decide +kernel
theorem ok_ta{f gh:Addr}{fd dh:FuncData}(F:Fun K "_law_table" "_law_table" sTable f fd)(T:Txt mg)(T2:Txt2 mg)(TR:mg "reversed" = none)(GH:CalF P w K mg base 1 "_law_hung" ["_law_web"] spHu gh dh):FnOk P w K mg base CX0 2 f fd ["_law_web","_law_posts_here"] spTa:=by
 refine F.ok scTa (fun vs H Q E h=>?_) (fun cdv A outer s H vs Q E hr h=>?_)
 ·obtain⟨t,q,n,ties,ps,rfl,_⟩:=h
  rfl
 ·obtain⟨t,q,n,ties,ps,rfl,W,TO,gq,pnd,pne,p6,fin⟩:=h
  have hr1:Room 1 _:=hr
  refine⟨_,(pss_cons (ps_compC (i:=2) scTa.nd rfl (Or.inl rfl) rfl csTa1 (pi_range1 rfl T.range (@pa_sub _ _ _ _ _ _ _ (@pe_ix _ _ _ _ _ _ _ ix_tupH (pv 0) pe_int (fun _ _=>rfl)) pa_nil)) (fun C s H fp=>(pg_name (i:=0) ndTa1 rfl (Or.inr rfl) (Or.inl (by rfl)))) (fun C s H fp=>pf_nil) (fun C s H fp=>(show PE _ _ (teTa2 K)from pe_comp rfl csTa2 (pi_list (pv 1)) (fun C s H fp=>(pg_name (i:=0) ndTa2 rfl (Or.inl rfl))) (fun C s H fp=>pf_nil) (fun C s H fp=>(pe_ifExp (PW.pt (pw_or (pt_cmpR op_notInH (pv 1) (pv 2) rfl) (pw_or1 (pt_cmpR op_eq (pv 1) (pv 0) (nomark _))))) pe_int pe_non)))))
   (pss_cons (ps_for PassesOwn.never rfl (pi_rev (by rfl) TR (@pa_sub _ _ _ _ _ _ _ (pe_slice sl_list (pe_call GH.ok hr1 rfl GH.mg GH.kp GH.bd .nil pass0 (@pa_nam _ _ _ _ _ _ (pv 0) pa_nil)) (po_some pe_int) po_none) pa_nil)) (pg_tup (n:=3) rfl (pgs_cons (pg_name (i:=3) scTa.nd rfl (Or.inl rfl)) (pgs_cons (pg_name (i:=4) scTa.nd rfl (Or.inl rfl)) (pgs_cons (pg_name (i:=5) scTa.nd rfl (Or.inr rfl)) pgs_nil))))
   (pss_one (ps_for PassesOwn.never rfl (pi_range1 rfl T.range (@pa_call _ _ _ _ _ _ _ _ (pe_callB call_lenH (by rfl) T.len PySem.boot_len (@pa_nam _ _ _ _ _ _ (pv 1) pa_nil)) pa_nil)) (pg_name (i:=6) scTa.nd rfl (Or.inr rfl))
   (pss_cons (ps_comp (i:=7) scTa.nd rfl (Or.inl rfl) rfl csTa3 (pi_enumB false rfl T2.enum (@pa_sub _ _ _ _ _ _ _ (@pe_ix _ _ _ _ _ _ _ ix_listH (pv 2) (pv 3) (fun _ _=>rfl)) pa_nil)) (fun C s H fp=>(pg_tupK K rfl (n:=2) rfl (pgs_cons (pg_name (i:=0) ndTa3 rfl (Or.inl rfl)) (pgs_cons (pg_name (i:=1) ndTa3 rfl (Or.inl rfl)) pgs_nil)) rfl rfl)) (fun C s H fp=>(pf_one (pt_cmp (pc_notN (pv 1))))) (fun C s H fp=>(pe_op op_add (pv 1) (pe_op op_mul (pv 2) (pe_callTy call_int1 (by rfl) T.int boot_int (@pa_cmp _ _ _ _ _ _ _ _ (pe_cmpR op_ne (pv 0) (pv 3) (nomark _)) pa_nil))))))
   (pss_one (ps_if (pt_cmp (pc_notN (@pe_ix _ _ _ _ _ _ _ ix_listH (@pe_ix _ _ _ _ _ _ _ ix_listH (pv 2) (pv 4) (fun _ _=>rfl)) (pv 6) (fun _ _=>rfl)))) (pss_one (ps_asg (pe_op op_add (@pe_ix _ _ _ _ _ _ _ ix_listH (@pe_ix _ _ _ _ _ _ _ ix_listH (pv 2) (pv 4) (fun _ _=>rfl)) (pv 6) (fun _ _=>rfl)) (pe_callB (call_minLH rfl) (by rfl) T.min boot_min (@pa_nam _ _ _ _ _ _ (pv 7) pa_nil))) (pg_sub (@pe_ix _ _ _ _ _ _ _ ix_listH (pv 2) (pv 4) (fun _ _=>rfl)) (pv 6) set_list))) pss_nil))))))
   (pss_one (ps_ret (pv 2))))),?_⟩
  obtain⟨⟨ts,was,w1,w2,w3⟩,tlen⟩:=id W
  have n30:=TO.n30
  have n1:=TO.n1
  refine⟨_,rfl,t,_,_,_,rfl,rfl,w1,atI_nat (j:=0) rfl,_,rfl,by omega,by omega,?_⟩
  rw[show((n:Int)).toNat=n by omega]
  refine comp_range (lo:=0) (n:=n) (fun i zs G=>Same H G/\∃ rs:List Addr,zs=rs.map V.ref/\rs.length=i/\rs.Nodup/\(∀ a∈rs,H a=none)/\∀ (j:Nat) (h:j<rs.length),G rs[j]=some (.lst ((rowOf ps (fun _=>[]) j []).map oI))) (by rw[sizeLine_eq];omega) ⟨Same.refl _,[],rfl,rfl,List.Pairwise.nil,(fun _ h=>nomatch h),fun j h=>absurd h (Nat.not_lt_zero _)⟩ ?_ ?_
  ·rintro i zs G hi ⟨sG,rs,rfl,rl,rnd,rH,gr⟩
   rw[Int.zero_add]
   refine⟨⟨rfl,trivial⟩,tTru_if ?_⟩
   refine⟨_,rfl,q,rfl,⟨_,SqL.of (sG _ _ gq)⟩,?_⟩
   refine comp_list (K:=K) (a:=q) (xs:=ps.map V.int) (fun j ys G2=>G2=G/\ys=((rowOf ps (fun _=>[]) i []).take j).map oI) (by rw[List.length_map,sizeLine_eq];omega) ⟨rfl,rfl⟩ (fun j ys G2 _ z=>by rw[z.1];exact SqL.of (sG _ _ gq)) ?_ ?_
   ·rintro j x ys G2 hx ⟨rfl,rfl⟩
    obtain⟨jl,ex⟩:=List.getElem?_eq_some_iff.mp hx
    rw[List.length_map]at jl
    rw[List.getElem_map]at ex
    subst ex
    have tk:(rowOf ps (fun _=>[]) i []).take (j+1)=(rowOf ps (fun _=>[]) i []).take j++[if opn ps i ps[j]then some 0 else none]:=by
     rw[List.take_succ_eq_append_getElem (by unfold rowOf;rw[List.length_map];exact jl)]
     congr 2
     unfold rowOf
     rw[List.getElem_map]
     rfl
    rw[tk,List.map_append]
    generalize ps[j]=p at *
    refine⟨⟨rfl,rfl,trivial⟩,tTru_if ?_⟩
    refine⟨_,rfl,_,rfl,q,_,rfl,sG _ _ gq,rfl,flat_ints _,_,rfl,?_⟩
    rw[if_pos rfl,inV_dec]
    by_cases zi:(i:Int)∈ps
    ·rw[decide_eq_true zi]
     refine iteF ⟨_,rfl,_,rfl,rfl,_,rfl,?_⟩
     by_cases zp:(i:Int)=p
     ·rw[decide_eq_true (show V.int (i:Int)=V.int p by rw[zp]),if_pos (.inl zp)]
      exact iteT ⟨rfl,rfl⟩
     ·rw[decide_eq_false (show ¬ V.int (i:Int)=V.int p from fun y=>zp (by injection y)),if_neg (fun y=>y.elim zp (fun z=>z zi))]
      exact iteF ⟨rfl,rfl⟩
    ·rw[decide_eq_false zi,if_pos (.inr zi)]
     exact iteT (iteT ⟨rfl,rfl⟩)
   ·rintro ys G2 _ ⟨rfl,rfl⟩ D hD
    have rwl:(rowOf ps (fun _=>[]) i []).length=ps.length:=by unfold rowOf;rw[List.length_map]
    rw[List.length_map,<- rwl,List.take_length]
    have sD:=Same.new (o:=.lst ((rowOf ps (fun _=>[]) i []).map oI)) hD
    refine⟨sG.trans sD,rs++[D],by rw[List.map_append];rfl,by rw[List.length_append,rl];rfl,List.nodup_append.mpr ⟨rnd,List.pairwise_singleton _ _,fun a ha b hb e=>?_⟩,fun a ha=>?_,fun j hj=>?_⟩
    ·have hb:b=D:=by simpa using hb
     obtain⟨k,hk,ek⟩:=List.getElem_of_mem ha
     have:=gr k hk
     rw[ek,e,hb,hD]at this
     cases this
    ·rcases List.mem_append.mp ha with h | h
     ·exact rH a h
     ·rw[List.mem_singleton.mp h];exact sG.free hD
    ·by_cases zz:j<rs.length
     ·rw[List.getElem_append_left zz]
      exact sD _ _ (gr j zz)
     ·have ej:j=rs.length:=by rw[List.length_append,List.length_singleton]at hj;omega
      subst ej
      rw[List.getElem_append_right (Nat.le_refl _)]
      simp only[Nat.sub_self,List.getElem_cons_zero]
      rw[rl]
      exact upd_same
  rintro zs H1 _ ⟨s1,rs,rfl,rl,rnd,rH,gr⟩ tb htb
  have stb:=Same.new (o:=.lst (rs.map V.ref)) htb
  have gtb:(upd H1 tb (.lst (rs.map V.ref))) tb=some (.lst (rs.map V.ref)):=upd_same
  have rtb:∀ a∈rs,a≠tb:=fun a ha z=>by
   obtain⟨k,hk,ek⟩:=List.getElem_of_mem ha
   have:=gr k hk
   rw[ek,z,htb]at this
   cases this
  have s2:=s1.trans stb
  have gr2:∀ (j:Nat) (h:j<rs.length),(upd H1 tb (.lst (rs.map V.ref))) rs[j]=some (.lst ((rowOf ps (fun _=>[]) j []).map oI)):=fun j h=>stb _ _ (gr j h)
  have tH:H tb=none:=s1.free htb
  generalize (upd H1 tb (.lst (rs.map V.ref)))=H2 at gtb s2 gr2
  refine⟨_,rfl,t,n,ties,rfl,W.same s2,TO.ok,n30,n1,TO.tr,TO.nt,TO.len,fun l a0 as L H3 gl g0 pa HG s3=>?_⟩
  refine⟨_,rfl,l,_,rfl,SqL.of gl,fun cl hcl=>?_⟩
  rw[List.map_cons,cut1]
  refine⟨cl,_,rfl,SqL.of upd_same,?_⟩
  have scl:=Same.new (o:=.lst (as.map V.ref)) hcl
  have gcl:(upd H3 cl (.lst (as.map V.ref))) cl=some (.lst (as.map V.ref)):=upd_same
  have rcl:∀ a∈rs,a≠cl:=fun a ha z=>by
   obtain⟨k,hk,ek⟩:=List.getElem_of_mem ha
   have:=s3 _ _ (gr2 k hk)
   rw[ek,z,hcl]at this
   cases this
  have s24:=s3.trans scl
  have sH4:=s2.trans s24
  have gr4:∀ (j:Nat) (h:j<rs.length),(upd H3 cl (.lst (as.map V.ref))) rs[j]=some (.lst ((rowOf ps (fun _=>[]) j []).map oI)):=fun j h=>s24 _ _ (gr2 j h)
  have gtb4:=s24 _ _ gtb
  have pa4:Paired (HtAt (upd H3 cl (.lst (as.map V.ref)))) as L:=Paired.mapP pa fun _ _ h=>scl _ _ h
  generalize (upd H3 cl (.lst (as.map V.ref)))=H4 at gcl sH4 gr4 gtb4 pa4
  have al:=pa.length
  have Ln:=HG.len
  refine for_rev (K:=K) (a:=cl) (xs:=as.map V.ref) (fun i σ G=>∃ (F:Int->List (Option Int)) (v3 v4 v5 v6 v7:Option V),σ=[some (.ref t),some (.ref q),some (.ref tb),v3,v4,v5,v6,v7]/\Same H G/\G cl=some (.lst (as.map V.ref))/\Paired (HtAt G) as L/\G tb=some (.lst (rs.map V.ref))/\(∀ (j:Nat) (h:j<rs.length),G rs[j]=some (.lst ((F j).map oI)))/\∀ v:Int,0<=v->v<n->F v=rowOf ps F v (kids (L.drop (L.length-i)) v)) ⟨fun v=>rowOf ps (fun _=>[]) v [],_,_,_,_,_,rfl,sH4,gcl,pa4,gtb4,gr4,fun v _ _=>?_⟩ (fun i σ G _ z=>by obtain⟨_,_,_,_,_,_,_,_,g,_⟩:=z;exact SqL.of g) ?_ ?_
  ·rw[Nat.sub_zero,List.drop_length]
   exact Hng.row_congr fun x hx=>nomatch hx
  ·rintro i x σ G hx ⟨F,v3,v4,v5,v6,v7,rfl,sG,gc,pg,gt,grs,inv⟩
   obtain⟨il,ex⟩:=List.getElem?_eq_some_iff.mp hx
   rw[List.length_reverse,List.length_map]at il
   rw[List.getElem_reverse,List.getElem_map]at ex
   have kA:as.length-1-i<as.length:=by omega
   have ex:V.ref as[as.length-1-i]=x:=by
    rw[<- ex]
    congr 2
    rw[List.length_map]
   subst ex
   have kL:as.length-1-i<L.length:=by omega
   have gx:=(show G as[as.length-1-i]=some (.tup [.int L[as.length-1-i].1,.int L[as.length-1-i].2.1,.int L[as.length-1-i].2.2])from Paired.at pg _ kA kL)
   have hm:=List.getElem_mem kL
   rw[show L.length-i=(as.length-1-i)+1 by omega]at inv
   rw[show L.length-(i+1)=as.length-1-i by omega]
   have stp:=fold_step HG kL inv
   generalize as.length-1-i=k at *
   obtain⟨c0,c1⟩:=HG.rg _ hm
   have pr:0<=L[k].2.1/\L[k].2.1<n:=by
    rcases List.mem_cons.mp (HG.ne hm).2.2 with e | e
    ·omega
    ·obtain⟨g,hg,eg⟩:=List.mem_map.mp e
     rw[<- eg]
     exact HG.rg g hg
   have cpn:=(HG.ne hm).2.1
   have fc:=inv _ c0 c1
   have fp:=inv _ pr.1 pr.2
   generalize L[k]=h at *
   generalize as[k]=ha at *
   generalize hks:kids (L.drop (k+1)) h.2.1=ks at *
   generalize hnew:(ps.map (fun q=>if opn ps h.2.1 q then some (due ps F ks q+mv ps (F h.1) q h.2.2)else none))=new at *
   have nl:new.length=ps.length:=by rw[<- hnew,List.length_map]
   have fpl:(F h.2.1).length=ps.length:=by rw[fp];unfold rowOf;rw[List.length_map]
   have fcl:(F h.1).length=ps.length:=by rw[fc];unfold rowOf;rw[List.length_map]
   have cR:h.1.toNat<rs.length:=by omega
   have pR:h.2.1.toNat<rs.length:=by omega
   have gcr:=grs _ cR
   rw[show((h.1.toNat:Nat):Int)=h.1 by omega]at gcr
   have lon:∀ o w,lo ps (F h.1) o w≠[]:=fun o w=>by rw[fc];exact Hng.lo_ne pne
   refine⟨ha,_,rfl,SqT.of gx,rfl,_,_,rfl,_,_,rfl,_,_,rfl,rfl,?_⟩
   refine⟨_,rfl,q,_,rfl,sG _ _ gq,_,rfl,by rw[List.length_map];omega,by rw[List.length_map];omega,?_⟩
   rw[List.length_map,show((ps.length:Int)).toNat=ps.length by omega]
   refine for_range (lo:=0) (n:=ps.length) (fun m σ G2=>∃ (v6 v7:Option V),σ=[some (.ref t),some (.ref q),some (.ref tb),some (.int h.1),some (.int h.2.1),some (.int h.2.2),v6,v7]/\Same H G2/\G2 cl=some (.lst (as.map V.ref))/\Paired (HtAt G2) as L/\G2 tb=some (.lst (rs.map V.ref))/\(∀ (j:Nat) (hj:j<rs.length),G2 rs[j]=some (.lst (((if(j:Int)=h.2.1 then mix new (F h.2.1) m else F j)).map oI)))) ⟨_,_,rfl,sG,gc,pg,gt,fun j hj=>?_⟩ ?_ ?_
   ·rw[grs j hj]
    by_cases z:(j:Int)=h.2.1
    ·rw[if_pos z,z];rfl
    ·rw[if_neg z]
   ·rintro m σ G2 hm2 ⟨v6,v7,rfl,s2',gc2,pg2,gt2,gr2'⟩
    rw[Int.zero_add]
    have gcr2:=gr2' _ cR
    rw[show((h.1.toNat:Nat):Int)=h.1 by omega,if_neg cpn]at gcr2
    have gpr2:=gr2' _ pR
    rw[show((h.2.1.toNat:Nat):Int)=h.2.1 by omega,if_pos rfl]at gpr2
    refine⟨_,rfl,_,rfl,tb,_,_,_,rfl,rfl,gt2,atI_nn c0 cR,rs[h.1.toNat],rfl,⟨_,SqL.of gcr2⟩,?_⟩
    generalize rs[h.1.toNat]=rc at *
    refine comp_enumB (K:=K) (b:=false) (l:=rc) (xs:=(F h.1).map oI) (fun i zs G3=>Same G2 G3/\zs=((((ps.zip (F h.1)).take i).filterMap fun x=>x.2.map fun z=>(if x.1=ps[m]then z else z+h.2.2,x.1)).map (·.1)).map V.int) (by rw[List.length_map,sizeLine_eq];omega) ⟨Same.refl _,rfl⟩ (fun i zs G3 _ z=>SqL.of (z.1 _ _ gcr2)) ?_ ?_
    ·rintro i x zs G3 T' hx ⟨s3',rfl⟩ hT
     obtain⟨il',ex⟩:=List.getElem?_eq_some_iff.mp hx
     rw[List.length_map]at il'
     rw[List.getElem_map]at ex
     subst ex
     have ip:i<ps.length:=by omega
     have idx:(ps[i]=ps[m])↔i=m:=⟨fun e=>(List.getElem_inj pnd).mp e,fun e=>by subst e;rfl⟩
     rw[lo_take ip il',List.map_append,List.map_append]
     generalize ps[i]=pi at *
     generalize hF:(F h.1)[i]=r at *
     have sT:=Same.new (o:=.tup [.int i,oI r]) hT
     refine⟨T',_,rfl,SqT.of upd_same,rfl,_,_,rfl,_,_,rfl,rfl,⟨rfl,rfl,trivial⟩,?_⟩
     refine⟨_,rfl,_,rfl,?_⟩
     cases r with
     |none=>exact iteF ⟨s3'.trans sT,(List.append_nil _).symm⟩
     |some z =>
      refine iteT ⟨_,rfl,_,rfl,_,rfl,_,rfl,rfl,.inr ⟨_,rfl,_,_,rfl,rfl,.inr ⟨?_,?_⟩,_,_,rfl,rfl,s3'.trans sT,?_⟩⟩
      ·split <;> decide
      ·split <;> decide
      ·congr 2
       by_cases e:i=m
       ·have ef:(!decide (V.int (i:Int)=V.int (m:Int)))=false:=by rw[decide_eq_true (by rw[e])];rfl
        show V.int (z+h.2.2 * (if(!decide (V.int (i:Int)=V.int (m:Int)))=true then 1 else 0))=V.int (if pi=ps[m]then z else z+h.2.2)
        rw[ef,if_neg Bool.false_ne_true,if_pos (idx.mpr e)]
        congr 1
        omega
       ·have ef:(!decide (V.int (i:Int)=V.int (m:Int)))=true:=by rw[decide_eq_false (fun y=>e (by injection y with y;omega))];rfl
        show V.int (z+h.2.2 * (if(!decide (V.int (i:Int)=V.int (m:Int)))=true then 1 else 0))=V.int (if pi=ps[m]then z else z+h.2.2)
        rw[ef,if_pos rfl,if_neg (fun y=>e (idx.mp y)),Int.mul_one]
    ·rintro zs G3 _ ⟨s3',rfl⟩ D hD
     rw[List.length_map,List.take_of_length_le (by rw[List.length_zip];omega)]
     have eD:((ps.zip (F h.1)).filterMap fun x=>x.2.map fun z=>(if x.1=ps[m]then z else z+h.2.2,x.1))=lo ps (F h.1) ps[m] h.2.2:=rfl
     rw[eD]
     have sD:=Same.new (o:=.lst (((lo ps (F h.1) ps[m] h.2.2).map (·.1)).map V.int)) hD
     have gD:(upd G3 D (.lst (((lo ps (F h.1) ps[m] h.2.2).map (·.1)).map V.int))) D=some (.lst (((lo ps (F h.1) ps[m] h.2.2).map (·.1)).map V.int)):=upd_same
     have s23:=s3'.trans sD
     generalize (upd G3 D (.lst (((lo ps (F h.1) ps[m] h.2.2).map (·.1)).map V.int)))=G4 at gD s23
     have gt4:=s23 _ _ gt2
     have gp4:=s23 _ _ gpr2
     have ml:=mix_len (a:=new) (b:=F h.2.1) (m:=m) (by omega) (by omega)
     have am:=mix_at (a:=new) (b:=F h.2.1) (m:=m) (by omega) (by omega)
     have at_m:atI ((mix new (F h.2.1) m).map oI) (m:Int)=some (oI (F h.2.1)[m]):=atI_nat (j:=m) (by rw[List.getElem?_map,am];rfl)
     have fm:(F h.2.1)[m]=if opn ps h.2.1 ps[m]then some (due ps F ks ps[m])else none:=by
      have:=congrArg (fun l:List (Option Int)=>l[m]?) fp
      have this:(F h.2.1)[m]?=(rowOf ps F h.2.1 ks)[m]?:=this
      unfold rowOf at this
      rw[List.getElem?_eq_getElem (by omega),List.getElem?_map,List.getElem?_eq_getElem hm2]at this
      injection this
     have nm:new[m]=if opn ps h.2.1 ps[m]then some (due ps F ks ps[m]+mv ps (F h.1) ps[m] h.2.2)else none:=by
      have:=congrArg (fun l:List (Option Int)=>l[m]?) hnew
      have this:(ps.map (fun q=>if opn ps h.2.1 q then some (due ps F ks q+mv ps (F h.1) q h.2.2)else none))[m]?=new[m]?:=this
      rw[List.getElem?_map,List.getElem?_eq_getElem hm2,List.getElem?_eq_getElem (by omega)]at this
      injection this with this
      exact this.symm
     refine⟨_,rfl,_,rfl,tb,_,_,_,rfl,rfl,gt4,atI_nn pr.1 pR,_,rfl,rs[h.2.1.toNat],_,_,_,rfl,rfl,gp4,at_m,_,rfl,?_⟩
     by_cases zo:opn ps h.2.1 ps[m]
     ·rw[fm,if_pos zo]
      rw[fm,if_pos zo]at at_m
      refine iteT ?_
      refine⟨_,rfl,_,rfl,tb,_,_,_,rfl,rfl,gt4,atI_nn pr.1 pR,_,rfl,rs[h.2.1.toNat],_,_,_,rfl,rfl,gp4,at_m,_,rfl,D,_,rfl,gD,fun z=>lon _ _ (List.map_eq_nil_iff.mp z),fun mm hmm lmm=>?_⟩
      have emm:mm=mv ps (F h.1) ps[m] h.2.2:=Lst.uniq ⟨hmm,lmm⟩ (Hng.mn_lst fun z=>lon _ _ (List.map_eq_nil_iff.mp z))
      refine⟨_,_,rfl,rfl,_,rfl,_,rfl,tb,_,_,_,rfl,rfl,gt4,atI_nn pr.1 pR,_,rfl,rs[h.2.1.toNat],_,_,m,rfl,rfl,gp4,by rw[List.length_map,ml];exact ixN_nn (by omega) (by omega),?_⟩
      have es:((mix new (F h.2.1) m).map oI).set m (V.int (due ps F ks ps[m]+mm))=(mix new (F h.2.1) (m+1)).map oI:=by
       rw[<- mix_set (a:=new) (b:=F h.2.1) (m:=m) (by omega) (by omega),nm,if_pos zo,List.map_set,emm]
       rfl
      have pm:rs[h.2.1.toNat]∈rs:=List.getElem_mem pR
      refine⟨_,_,rfl,same_put (s2'.trans s23) (rH _ pm),by rw[upd_ne (Ne.symm (rcl _ pm))];exact s23 _ _ gc2,Paired.mapP pg2 fun a x e=>?_,by rw[upd_ne (Ne.symm (rtb _ pm))];exact gt4,fun j hj=>?_⟩
      ·have e:=s23 _ _ e
       unfold HtAt
       rw[upd_ne (fun y=>by rw[y,gp4]at e;cases e)]
       exact e
      ·by_cases z:(j:Int)=h.2.1
       ·have ej:j=h.2.1.toNat:=by omega
        subst ej
        rw[upd_same,if_pos z]
        exact congrArg (fun l=>some (HO.lst l)) es
       ·rw[if_neg z,upd_ne (fun y=>z (by have:=(List.getElem_inj rnd).mp y;omega))]
        have:=s23 _ _ (gr2' j hj)
        rw[if_neg z]at this
        exact this
     ·rw[fm,if_neg zo]
      refine iteF ⟨_,_,rfl,s2'.trans s23,s23 _ _ gc2,Paired.mapP pg2 fun a x e=>s23 _ _ e,gt4,fun j hj=>?_⟩
      rw[<- mix_same (a:=new) (b:=F h.2.1) (m:=m) (by omega) (by omega) (by rw[nm,fm,if_neg zo,if_neg zo])]
      exact s23 _ _ (gr2' j hj)
   ·rintro σ G2 ⟨v6,v7,rfl,s2',gc2,pg2,gt2,gr2'⟩
    refine⟨fun u=>if u=h.2.1 then new else F u,_,_,_,_,_,rfl,s2',gc2,pg2,gt2,fun j hj=>?_,stp⟩
    rw[gr2' j hj]
    show some (HO.lst ((if(j:Int)=h.2.1 then mix new (F h.2.1) ps.length else F j).map oI))=some (HO.lst ((if(j:Int)=h.2.1 then new else F j).map oI))
    have:mix new (F h.2.1) ps.length=new:=by
     unfold mix
     rw[<- nl,List.take_length,List.drop_of_length_le (by omega),List.append_nil]
    rw[this]
  ·rintro σ G ⟨F,v3,v4,v5,v6,v7,rfl,sG,gc,pg,gt,grs,inv⟩
   rw[List.length_map,al,Nat.sub_self,List.drop_zero]at inv
   exact⟨_,rfl,fin tb F L G ⟨rs,rl,gt,grs⟩ HG inv sG⟩
end
open PySem L2 PyProof.Rows
open Hng (Ht Hang kids Met Lst mn lo mv due rowOf Tab opn Told Part toTie tpay pay)
open Nar (ch LR)
noncomputable def oD:Option Int->Dt
 |none=>.non
 |some i=>.int i
theorem dat_o{H:Hp}:∀ (r:List (Option Int)),Paired (Dat H 0) (r.map oI) (r.map oD)
 |[]=>.nil
 |none :: r=>.cons rfl (dat_o r)
 |some _ :: r=>.cons rfl (dat_o r)
theorem dat_row{H:Hp}{a:Addr}{r:List (Option Int)}(h:H a=some (.lst (r.map oI)))(l:r.length<=1000):Dat H 1 (.ref a) (.lst (r.map oD)):=⟨a,_,rfl,by rw[List.length_map];exact l,h,dat_o r⟩
theorem paired_of{α β:Type}{F:α->β->Prop}:∀ {l:List α}{m:List β},l.length=m.length->(∀ (i:Nat) (h1:i<l.length) (h2:i<m.length),F l[i] m[i])->Paired F l m
 |[],[],_,_=>.nil
 |[],_ :: _,e,_=>by cases e
 | _ :: _,[],e,_=>by cases e
 |a :: l,b :: m,e,h=>.cons (h 0 (by simp) (by simp)) (paired_of (by simpa using e) fun i h1 h2=>by
   have:=h (i+1) (by simpa using h1) (by simpa using h2)
   simpa using this)
theorem all_rep(n:Nat):(List.replicate n true).all id=true:=by
 rw[List.all_eq_true]
 intro x hx
 rw[(List.mem_replicate.mp hx).2]
 rfl
theorem rep_t(i:Nat):(List.replicate i true).map V.bl++[V.bl true]=(List.replicate (i+1) true).map V.bl:=by
 rw[List.replicate_succ',List.map_append]
 rfl
noncomputable def spAo:Sp:=fun vs H Q _=>∃ (t q o:Addr) (n:Nat) (ties:List Tie) (ps os:List Int),vs=[.ref t,.ref q,.ref o]/\WebAt H t n ties/\n<=30/\H q=some (.lst (ps.map V.int))/\ps.length<=6/\H o=some (.tup (os.map V.int))/\os.length=n/\(∀ x∈os,x∈ps)/\(∀ x∈ps,0<=x/\x<n/\os.getD x.toNat 0=x)/\∀ H',Same H H'->Q (.bl true) H'
theorem Tab.of_perm{n:Nat}{ps:List Int}{L L':List Ht}{R:Int->List (Option Int)}(T:Tab n ps L R)(p:L.Perm L'):Tab n ps L' R:=fun v v0 v1=>by rw[T v v0 v1];exact Hng.row_perm (Hng.kids_perm p v)
section
variable{n:Nat}{ties:List Tie}{ps:List Int}{L:List Ht}{R:Int->List (Option Int)}{os:List Int}{z:Int}
theorem own_in(HG:Hang n ties L)(T:Tab n ps L R)(O:Own n ps L R os z){v:Int}(v0:0<=v)(v1:v<n):os.getD v.toNat 0∈ch ps v:=by
 rcases List.mem_cons.mp (HG.all v0 v1)with e | e
 ·have:=O.root.1
  rw[T 0 (Int.le_refl _) (by omega)]at this
  have:=(Hng.lo_row.mp this).1
  rw[e]
  exact this
 ·obtain⟨h,hh,rfl⟩:=List.mem_map.mp e
  obtain⟨x,hx,_⟩:=O.each h hh
  rw[T h.1 v0 v1]at hx
  exact(Hng.lo_row.mp hx).1
theorem own_cost(HG:Hang n ties L)(T:Tab n ps L R)(O:Own n ps L R os z):(ties.map (tpay fun v=>os.getD v.toNat 0)).sum=z:=by
 have n1:=HG.n1
 rw[Hng.pay_sum HG.tie,Hng.cost_eq (ps:=ps) (R:=R) HG fun h hh=>?_]
 ·have r:=O.root.1
  rw[T 0 (Int.le_refl _) (by omega)]at r
  have:=(Hng.lo_row.mp r).2
  show due ps R (kids L 0) (os.getD 0 0)=z
  have this:z=if os.getD 0 0=ps.getD 0 0 then due ps R (kids L 0) (os.getD 0 0)else due ps R (kids L 0) (os.getD 0 0)+0:=this
  rw[this]
  split <;> omega
 ·obtain⟨x,hx,le⟩:=O.each h hh
  have e:=lo_mv hx le
  obtain⟨r0,r1⟩:=HG.rg h hh
  rw[T h.1 r0 r1]at hx
  have:=(Hng.lo_row.mp hx).2
  rw[<- e]
  exact this
end
section
variable{P:Program}{w:World}{K:PySem.W.Frag}{mg:Str->Option Value}{base:Heap}
noncomputable abbrev nAo:List Str:=["_law_web","_law_posts_here","_law_owners"]
theorem scAo:FnScope nAo ["_law_web","_law_posts_here","_law_owners"] (defScope sAreOwners):=⟨rfl,rfl,rfl,by decide +kernel,rfl,by decide +kernel,by decide +kernel⟩
theorem csAo1:CompScope ["_law_one","_law_posts_here"] [none,some 1] nAo (defScope sAreOwners) (scO [(".0",.local),("_law_one",.local),("isinstance",.globalImplicit),("int",.globalImplicit),("bool",.globalImplicit),("_law_posts_here",.free)]):=⟨rfl,by decide +kernel,by decide +kernel,by decide +kernel,rfl,capB_ok (by decide +kernel)⟩
theorem ndAo1:(["_law_one","_law_posts_here"]:List Str).Nodup:=by decide +kernel
theorem csAo2:CompScope ["_law_post","_law_owners"] [none,some 2] nAo (defScope sAreOwners) (scO [(".0",.local),("_law_post",.local),("_law_owners",.free)]):=⟨rfl,by decide +kernel,by decide +kernel,by decide +kernel,rfl,capB_ok (by decide +kernel)⟩
theorem ndAo2:(["_law_post","_law_owners"]:List Str).Nodup:=by decide +kernel
theorem ok_ao{f:Addr}{fd:FuncData}(F:Fun K "_law_are_owners" "_law_are_owners" sAreOwners f fd)(T:Txt mg)(T2:Txt2 mg):FnOk P w K mg base CX0 1 f fd ["_law_web","_law_posts_here","_law_owners"] spAo:=by
 refine F.ok scAo (fun vs H Q E h=>?_) (fun cdv A outer s H vs Q E hr h=>?_)
 ·obtain⟨t,q,o,n,ties,ps,os,rfl,_⟩:=h
  rfl
 ·obtain⟨t,q,o,n,ties,ps,os,rfl,W,n30,gq,p6,go,ol,oin,opp,fin⟩:=h
  obtain⟨⟨ts,was,w1,w2,w3⟩,tlen⟩:=id W
  refine⟨_,(pss_cons (ps_if (PW.pt (pw_or (pt_not (pt_val (pe_callB call_isinst (by rfl) T.isinst boot_isinstance (@pa_nam _ _ _ _ _ _ (pv 2) (@pa_nam _ _ _ _ _ _ (pe_bltn (v:=.ty "tuple") (by rfl) T.tuple boot_tuple rfl) pa_nil))))) (pw_or1 (pt_cmpR op_ne (pe_callB call_lenTH (by rfl) T.len PySem.boot_len (@pa_nam _ _ _ _ _ _ (pv 2) pa_nil)) (@pe_ix _ _ _ _ _ _ _ ix_tupH (pv 0) pe_int (fun _ _=>rfl)) (nomark _))))) (pss_one (ps_ret pe_bl)) pss_nil)
   (pss_cons (ps_if (pt_not (pt_val (pe_callB (call_allH rfl) (by rfl) T2.all boot_all (@pa_comp _ _ _ _ _ _ _ _ (pe_comp rfl csAo1 (pi_tup (pv 2)) (fun C s H fp=>(pg_name (i:=0) ndAo1 rfl (Or.inl rfl))) (fun C s H fp=>pf_nil) (fun C s H fp=>(pe_and (pe_callB (call_isinstC K rfl) (by rfl) T.isinst boot_isinstance (@pa_nam _ _ _ _ _ _ (pv 0) (@pa_nam _ _ _ _ _ _ (pe_bltn (v:=.ty "int") (by rfl) T.int boot_int rfl) pa_nil))) (pe_and (pe_not (pe_callB (call_isinstC K rfl) (by rfl) T.isinst boot_isinstance (@pa_nam _ _ _ _ _ _ (pv 0) (@pa_nam _ _ _ _ _ _ (pe_bltn (v:=.ty "bool") (by rfl) T.bool boot_bool rfl) pa_nil)))) (pe_one (pe_cmpR op_inH (pv 0) (pv 1) rfl)))))) pa_nil)))) (pss_one (ps_ret pe_bl)) pss_nil)
   (pss_one (ps_ret (pe_callB (call_allH rfl) (by rfl) T2.all boot_all (@pa_comp _ _ _ _ _ _ _ _ (pe_comp rfl csAo2 (pi_list (pv 1)) (fun C s H fp=>(pg_name (i:=0) ndAo2 rfl (Or.inl rfl))) (fun C s H fp=>pf_nil) (fun C s H fp=>(pe_cmpR op_eq (@pe_ix _ _ _ _ _ _ _ ix_tupH (pv 1) (pv 0) (fun _ _=>rfl)) (pv 0) (nomark _)))) pa_nil)))))),?_⟩
  refine⟨_,rfl,_,_,"tuple",true,rfl,TyOf.tup go,rfl,_,rfl,iteF ?_⟩
  refine⟨_,rfl,o,_,rfl,go,_,rfl,t,_,_,_,rfl,rfl,w1,atI_nat (j:=0) rfl,rfl,_,rfl,iteNS (by rw[List.length_map,ol]) ?_⟩
  refine⟨_,rfl,o,rfl,⟨_,SqT.of go⟩,?_⟩
  refine comp_tup (K:=K) (a:=o) (xs:=os.map V.int) (fun i zs G=>G=H/\zs=(List.replicate i true).map V.bl) (by rw[List.length_map,sizeLine_eq];omega) ⟨rfl,rfl⟩ (fun i zs G _ z=>by rw[z.1];exact SqT.of go) ?_ ?_
  ·rintro i x zs G hx ⟨rfl,rfl⟩
   obtain⟨il,ex⟩:=List.getElem?_eq_some_iff.mp hx
   rw[List.length_map]at il
   rw[List.getElem_map]at ex
   subst ex
   have hin:=oin _ (List.getElem_mem il)
   generalize os[i]=y at *
   refine⟨⟨rfl,trivial⟩,tTru_if ?_⟩
   refine⟨_,rfl,_,_,"int",true,rfl,TyOf.int _,rfl,_,rfl,iteT ?_⟩
   refine⟨_,rfl,_,_,"bool",false,rfl,TyOf.int _,rfl,_,rfl,_,rfl,iteT ?_⟩
   refine⟨_,rfl,_,rfl,q,_,rfl,gq,rfl,flat_ints _,rfl,?_⟩
   rw[if_neg Bool.false_ne_true,inV_dec,decide_eq_true hin]
   exact rep_t i
  ·rintro zs G _ ⟨rfl,rfl⟩ D hD
   have sD:=Same.new (o:=.lst ((List.replicate (os.map V.int).length true).map V.bl)) hD
   refine⟨D,_,rfl,upd_same,_,rfl,?_⟩
   rw[all_rep]
   refine iteF ?_
   refine⟨_,rfl,q,rfl,⟨_,SqL.of (sD _ _ gq)⟩,?_⟩
   generalize (upd G D (.lst ((List.replicate (os.map V.int).length true).map V.bl)))=H2 at sD
   refine comp_list (K:=K) (a:=q) (xs:=ps.map V.int) (fun i zs G=>G=H2/\zs=(List.replicate i true).map V.bl) (by rw[List.length_map,sizeLine_eq];omega) ⟨rfl,rfl⟩ (fun i zs G _ z=>by rw[z.1];exact SqL.of (sD _ _ gq)) ?_ ?_
   ·rintro i x zs G hx ⟨rfl,rfl⟩
    obtain⟨il,ex⟩:=List.getElem?_eq_some_iff.mp hx
    rw[List.length_map]at il
    rw[List.getElem_map]at ex
    subst ex
    obtain⟨x0,x1,x2⟩:=opp _ (List.getElem_mem il)
    generalize ps[i]=y at *
    have yl:y.toNat<os.length:=by omega
    have ay:atI (os.map V.int) y=some (V.int y):=by
     rw[atI_ni x0 yl]
     rw[List.getD_eq_getElem?_getD,List.getElem?_eq_getElem yl]at x2
     have x2:os[y.toNat]=y:=x2
     rw[x2]
    refine⟨⟨rfl,trivial⟩,tTru_if ?_⟩
    refine⟨_,rfl,_,rfl,o,_,_,_,rfl,rfl,sD _ _ go,ay,_,rfl,rfl,rfl,?_⟩
    rw[decide_eq_true rfl]
    exact rep_t i
   ·rintro zs G _ ⟨rfl,rfl⟩ D2 hD2
    refine⟨D2,_,rfl,upd_same,?_⟩
    rw[all_rep]
    exact fin _ (sD.trans (Same.new hD2))
end
open PySem L2 PyProof.Rows
open Hng (Ht Hang kids Met Lst mn lo mv due rowOf Tab opn Told Part toTie tpay pay)
open Nar (ch LR)
noncomputable def spIt:Sp:=fun vs H Q _=>∃ (t q r ow tb:Addr) (n:Nat) (ties:List Tie) (ps os:List Int) (L:List Ht) (R:Int->List (Option Int)) (z:Int),vs=[.ref t,.ref q,.ref r]/\WebAt H t n ties/\TreeOk n ties/\Hang n ties L/\H q=some (.lst (ps.map V.int))/\ps.Nodup/\ps≠[]/\ps.length<=6/\(∀ x∈ps,0<=x/\x<n)/\H r=some (.tup [.int z,.ref ow,.ref tb])/\H ow=some (.tup (os.map V.int))/\TabAt H tb n R/\Tab n ps L R/\z=mv ps (R 0) (ps.getD 0 0) 0/\Own n ps L R os z/\∀ H',Same H H'->Q (.bl true) H'
section
variable{P:Program}{w:World}{K:PySem.W.Frag}{mg:Str->Option Value}{base:Heap}
noncomputable abbrev nIt:List Str:=["_law_web","_law_posts_here","_law_told","_law_table_here","_law_least"]
theorem scIt:FnScope nIt ["_law_web","_law_posts_here","_law_told"] (defScope sIsTold):=⟨rfl,rfl,rfl,by decide +kernel,rfl,by decide +kernel,by decide +kernel⟩
theorem csIt1:CompScope ["_law_cost_here"] [none] nIt (defScope sIsTold) (scO [(".0",.local),("_law_cost_here",.local)]):=⟨rfl,by decide +kernel,by decide +kernel,by decide +kernel,rfl,capB_ok (by decide +kernel)⟩
theorem ndIt1:(["_law_cost_here"]:List Str).Nodup:=by decide +kernel
theorem ok_it{f ga gt gc gs:Addr}{fd da dt dc ds:FuncData}(F:Fun K "_law_is_told" "_law_is_told" sIsTold f fd)(T:Txt mg)(GA:CalF P w K mg base 1 "_law_are_owners" ["_law_web","_law_posts_here","_law_owners"] spAo ga da)(GT:CalF P w K mg base 2 "_law_table" ["_law_web","_law_posts_here"] spTa gt dt)(GC:CalF P w K mg base 1 "_law_cost" ["_law_web","_law_owners"] spCo gc dc)(GS:CalF P w K mg base 4 "_law_same" ["_law_found","_law_due"] (spSame 3) gs ds):FnOk P w K mg base CX0 5 f fd ["_law_web","_law_posts_here","_law_told"] spIt:=by
 refine F.ok scIt (fun vs H Q E h=>?_) (fun cdv A outer s H vs Q E hr h=>?_)
 ·obtain⟨t,q,r,ow,tb,n,ties,ps,os,L,R,z,rfl,_⟩:=h
  rfl
 ·obtain⟨t,q,r,ow,tb,n,ties,ps,os,L,R,z,rfl,W,TO,HG,gq,pnd,pne,p6,prg,gr,gow,TA,TB,ez,OW,fin⟩:=h
  have hr1:Room 1 _:=hr.mono (by decide)
  have hr2:Room 2 _:=hr.mono (by decide)
  have hr4:Room 4 _:=hr
  refine⟨_,(pss_cons (ps_if (PW.pt (pw_or (pt_not (pt_val (pe_callB call_isinst (by rfl) T.isinst boot_isinstance (@pa_nam _ _ _ _ _ _ (pv 2) (@pa_nam _ _ _ _ _ _ (pe_bltn (v:=.ty "tuple") (by rfl) T.tuple boot_tuple rfl) pa_nil))))) (pw_or (pt_cmpR op_ne (pe_callB call_lenTH (by rfl) T.len PySem.boot_len (@pa_nam _ _ _ _ _ _ (pv 2) pa_nil)) pe_int (nomark _)) (pw_or1 (pt_not (pt_val (pe_call GA.ok hr1 rfl GA.mg GA.kp GA.bd .nil pass0 (@pa_nam _ _ _ _ _ _ (pv 0) (@pa_nam _ _ _ _ _ _ (pv 1) (@pa_sub _ _ _ _ _ _ _ (@pe_ix _ _ _ _ _ _ _ ix_tupH (pv 2) pe_int (fun _ _=>rfl)) pa_nil)))))))))) pss_never pss_nil)
   (pss_cons (ps_set (i:=3) scIt.nd rfl (Or.inl rfl) (pe_call GT.ok hr2 rfl GT.mg GT.kp GT.bd .nil pass0 (@pa_nam _ _ _ _ _ _ (pv 0) (@pa_nam _ _ _ _ _ _ (pv 1) pa_nil))))
   (pss_cons (ps_set (i:=4) scIt.nd rfl (Or.inl rfl) (pe_callB (call_minLH rfl) (by rfl) T.min boot_min (@pa_comp _ _ _ _ _ _ _ _ (pe_comp rfl csIt1 (pi_list (@pe_ix _ _ _ _ _ _ _ ix_listH (pv 3) pe_int (fun _ _=>rfl))) (fun C s H fp=>(pg_name (i:=0) ndIt1 rfl (Or.inl rfl))) (fun C s H fp=>(pf_one (pt_cmp (pc_notN (pv 0))))) (fun C s H fp=>(pv 0))) pa_nil)))
   (pss_one (ps_ret (pe_call GS.ok hr4 rfl GS.mg GS.kp GS.bd .nil pass0 (@pa_lst _ _ _ _ _ _ (@pe_lst _ _ _ _ (@pa_sub _ _ _ _ _ _ _ (@pe_ix _ _ _ _ _ _ _ ix_tupH (pv 2) pe_int (fun _ _=>rfl)) (@pa_call _ _ _ _ _ _ _ _ (pe_call GC.ok hr1 rfl GC.mg GC.kp GC.bd .nil pass0 (@pa_nam _ _ _ _ _ _ (pv 0) (@pa_sub _ _ _ _ _ _ _ (@pe_ix _ _ _ _ _ _ _ ix_tupH (pv 2) pe_int (fun _ _=>rfl)) pa_nil))) (@pa_sub _ _ _ _ _ _ _ (@pe_ix _ _ _ _ _ _ _ ix_tupH (pv 2) pe_int (fun _ _=>rfl)) pa_nil)))) (@pa_lst _ _ _ _ _ _ (@pe_lst _ _ _ _ (@pa_nam _ _ _ _ _ _ (pv 4) (@pa_nam _ _ _ _ _ _ (pv 4) (@pa_nam _ _ _ _ _ _ (pv 3) pa_nil)))) pa_nil)))))))),?_⟩
  have n30:=TO.n30
  have n1:=TO.n1
  have ol:=OW.len
  have oin:=fun {v:Int} v0 v1=>own_in HG TB OW (v:=v) v0 v1
  have Rl:∀ v:Int,0<=v->v<n->(R v).length=ps.length:=fun v v0 v1=>by rw[TB v v0 v1];unfold rowOf;rw[List.length_map]
  refine⟨_,rfl,_,_,"tuple",true,rfl,TyOf.tup gr,rfl,_,rfl,iteF ?_⟩
  refine⟨_,rfl,r,_,rfl,gr,rfl,_,rfl,iteNS rfl ?_⟩
  refine⟨_,rfl,_,rfl,_,rfl,r,_,_,_,rfl,rfl,gr,atI_nat (j:=1) rfl,t,q,ow,n,ties,ps,os,rfl,W,n30,gq,p6,gow,ol,fun x hx=>?_,fun x hx=>?_,fun H1 s1=>⟨_,rfl,iteF ?_⟩⟩
  ·obtain⟨i,hi,rfl⟩:=List.getElem_of_mem hx
   have:=oin (v:=i) (by omega) (by omega)
   rw[Int.toNat_natCast,List.getD_eq_getElem?_getD,List.getElem?_eq_getElem hi]at this
   exact(Hng.mem_ch.mp this).1
  ·obtain⟨x0,x1⟩:=prg x hx
   refine⟨x0,x1,?_⟩
   have:=(Hng.mem_ch.mp (oin x0 x1)).2
   exact(this.resolve_right fun y=>y hx).symm
  refine⟨_,rfl,_,rfl,t,q,n,ties,ps,rfl,W.same s1,TO,s1 _ _ gq,pnd,pne,p6,fun tb2 F2 L2 H2 TA2 HG2 TB2 s2=>?_⟩
  have eF:∀ v:Int,0<=v->v<n->F2 v=R v:=fun v v0 v1=>Hng.tab_one HG2 TB2 (Tab.of_perm TB (HG.same HG2)) pne v0 v1
  obtain⟨as2,al2,gt2,gw2⟩:=id TA2
  have s12:=s1.trans s2
  have a2:0<as2.length:=by omega
  have g20:=gw2 0 a2
  rw[show F2 ((0:Nat):Int)=R 0 from eF 0 (Int.le_refl _) (by omega)]at g20
  refine⟨_,rfl,tb2,_,_,_,rfl,rfl,gt2,atI_nat (j:=0) (by rw[List.getElem?_map,List.getElem?_eq_getElem a2];rfl),_,rfl,⟨_,SqL.of g20⟩,?_⟩
  have r0l:(R 0).length=ps.length:=Rl 0 (Int.le_refl _) (by omega)
  have ez0:z=mn ((R 0).filterMap id):=by
   rw[ez]
   unfold mv
   rw[Hng.lo_zero r0l]
  have ne0:(R 0).filterMap id≠[]:=fun e=>by
   have:=Hng.lo_ne (R:=R) (v:=0) (q:=ps.getD 0 0) (w:=0) (ks:=kids L 0) pne
   rw[<- TB 0 (Int.le_refl _) (by omega)]at this
   have e2:=Hng.lo_zero (q:=ps.getD 0 0) r0l
   rw[e]at e2
   exact this (List.map_eq_nil_iff.mp e2)
  refine comp_list (K:=K) (a:=as2[0]) (xs:=(R 0).map oI) (fun i zs G2=>G2=H2/\zs=(((R 0).take i).filterMap id).map V.int) (by rw[List.length_map,sizeLine_eq,r0l];omega) ⟨rfl,rfl⟩ (fun i zs G2 _ y=>by rw[y.1];exact SqL.of g20) ?_ ?_
  ·rintro i x zs G2 hx ⟨rfl,rfl⟩
   obtain⟨il,ex⟩:=List.getElem?_eq_some_iff.mp hx
   rw[List.length_map]at il
   rw[List.getElem_map]at ex
   subst ex
   rw[List.take_succ_eq_append_getElem il,List.filterMap_append,List.map_append]
   generalize (R 0)[i]=o at *
   refine⟨trivial,_,rfl,_,rfl,?_⟩
   cases o with
   |none=>exact iteF ⟨rfl,(List.append_nil _).symm⟩
   |some i=>exact iteT ⟨_,rfl,rfl,rfl⟩
  rintro zs G2 _ ⟨rfl,rfl⟩ D2 hD2
  rw[List.length_map,List.take_length]
  have sD2:=Same.new (o:=.lst (((R 0).filterMap id).map V.int)) hD2
  refine⟨D2,_,rfl,upd_same,ne0,fun m hm lm=>?_⟩
  have em:m=z:=by rw[ez0];exact Lst.uniq ⟨hm,lm⟩ (Hng.mn_lst ne0)
  subst em
  have s13:=s12.trans sD2
  have TA3:=TA2.same sD2
  generalize (upd G2 D2 (.lst (((R 0).filterMap id).map V.int)))=H3 at s13 TA3
  refine⟨_,rfl,r,_,_,_,rfl,rfl,s13 _ _ gr,atI_nat (j:=0) rfl,_,rfl,_,rfl,r,_,_,_,rfl,rfl,s13 _ _ gr,atI_nat (j:=1) rfl,t,ow,n,ties,os,rfl,W.same s13,TO.ok,s13 _ _ gow,ol,fun H4 s4=>?_⟩
  rw[own_cost HG TB OW]
  have s14:=s13.trans s4
  refine⟨_,rfl,r,_,_,_,rfl,rfl,s14 _ _ gr,atI_nat (j:=2) rfl,(by show 3<=sizeLine;decide),fun l1 hl1=>⟨_,rfl,_,rfl,_,rfl,(by show 3<=sizeLine;decide),fun l2 hl2=>?_⟩⟩
  have sl1:=Same.new (o:=.lst [.int m,.int m,.ref tb]) hl1
  have sl2:=Same.new (o:=.lst [.int m,.int m,.ref tb2]) hl2
  have dt:∀ {G:Hp}{a:Addr}{X:Int->List (Option Int)},TabAt G a n X->(∀ v:Int,0<=v->v<n->X v=R v)->Dat G 2 (.ref a) (.lst ((List.range n).map fun(j:Nat)=>Dt.lst ((R j).map oD))):=fun {G a X} TT eX=>by
   obtain⟨as,al,ga,gr⟩:=TT
   refine⟨a,_,rfl,by rw[List.length_map];omega,ga,paired_of (by rw[List.length_map,List.length_map,List.length_range,al]) fun j h1 h2=>?_⟩
   rw[List.length_map]at h1
   rw[List.getElem_map,List.getElem_map,List.getElem_range]
   have:=gr j h1
   rw[eX j (by omega) (by omega)]at this
   exact dat_row this (by rw[Rl j (by omega) (by omega)];omega)
  refine⟨.ref l1,.ref l2,.lst [.int m,.int m,.lst ((List.range n).map fun(j:Nat)=>Dt.lst ((R j).map oD))],rfl,⟨l1,_,rfl,by show 3<=1000;decide,sl2 _ _ upd_same,.cons rfl (.cons rfl (.cons (dt (TA.same (s14.trans (sl1.trans sl2))) fun v _ _=>rfl) .nil))⟩,⟨l2,_,rfl,by show 3<=1000;decide,upd_same,.cons rfl (.cons rfl (.cons (dt (TA3.same (s4.trans (sl1.trans sl2))) eF) .nil))⟩,fun H6 s6=>?_⟩
  exact fin _ (s14.trans (sl1.trans (sl2.trans s6)))
end
open PySem L2 PyProof.Rows
open Hng (Ht Hang kids Met Lst mn lo mv due rowOf Tab opn Told Part toTie tpay pay)
open Nar (ch LR)
section
variable{n:Nat}{ties:List Tie}{ps:List Int}{L:List Ht}{R:Int->List (Option Int)}{os os':List Int}{z z':Int}
theorem pair_one{l:List (Int×Int)}{x y:Int×Int}(hx:x∈l)(lx:∀ u∈l,¬ ltP u x)(hy:y∈l)(ly:∀ u∈l,¬ ltP u y):x=y:=by
 have h1:=lx y hy
 have h2:=ly x hx
 obtain⟨a,b⟩:=x
 obtain⟨c,d⟩:=y
 unfold ltP at h1 h2
 have h1:¬(c<a\/c=a/\d<b):=h1
 have h2:¬(a<c\/a=c/\b<d):=h2
 rw[show a=c by omega,show b=d by omega]
theorem own_one(HG:Hang n ties L)(O:Own n ps L R os z)(O':Own n ps L R os' z'):os=os'/\z=z':=by
 have r:=pair_one O.root.1 O.root.2 O'.root.1 O'.root.2
 have r0:os.getD 0 0=os'.getD 0 0:=by injection r
 have rz:z=z':=by injection r
 have key:∀ (m i:Nat) (hi:i<L.length),i<m->os.getD L[i].1.toNat 0=os'.getD L[i].1.toNat 0:=by
  intro m
  induction m with
  |zero=>intro i hi y;omega
  |succ m ih =>
   intro i hi im
   have par:os.getD L[i].2.1.toNat 0=os'.getD L[i].2.1.toNat 0:=by
    rcases List.mem_cons.mp (HG.up i hi)with e | e
    ·rw[e];exact r0
    ·obtain⟨g,hg,eg⟩:=List.mem_map.mp e
     obtain⟨j,hj,rfl⟩:=List.getElem_of_mem hg
     rw[List.length_take]at hj
     rw[List.getElem_take]at eg
     rw[<- eg]
     exact ih j (by omega) (by omega)
   obtain⟨x,hx,lx⟩:=O.each _ (List.getElem_mem hi)
   obtain⟨y,hy,ly⟩:=O'.each _ (List.getElem_mem hi)
   rw[<- par]at hy ly
   have:=pair_one hx lx hy ly
   injection this
 refine⟨List.ext_getElem (by rw[O.len,O'.len]) fun i h1 h2=>?_,rz⟩
 have e:os.getD i 0=os'.getD i 0:=by
  have il:(i:Int)<n:=by have:=O.len;omega
  rcases List.mem_cons.mp (HG.all (v:=i) (by omega) il)with e | e
  ·have:i=0:=by omega
   rw[this];exact r0
  ·obtain⟨g,hg,eg⟩:=List.mem_map.mp e
   obtain⟨j,hj,rfl⟩:=List.getElem_of_mem hg
   have:=key (j+1) j hj (by omega)
   rw[eg,Int.toNat_natCast]at this
   exact this
 rw[List.getD_eq_getElem?_getD,List.getD_eq_getElem?_getD,List.getElem?_eq_getElem h1,List.getElem?_eq_getElem h2]at e
 exact e
theorem lst_rows(HG:Hang n ties L)(T:Tab n ps L R)(O:Own n ps L R os z)(ne:ps≠[])(ez:z=mv ps (R 0) (ps.getD 0 0) 0):Lst ((LR ps n).map fun r=>(ties.map (tpay fun v=>r.getD v.toNat 0)).sum) z:=by
 have n1:=HG.n1
 refine⟨List.mem_map.mpr ⟨os,Nar.lr_mem.mpr ⟨O.len,fun j hj=>?_⟩,own_cost HG T O⟩,fun y hy=>?_⟩
 ·have:=own_in HG T O (v:=j) (by omega) (by have:=O.len;omega)
  rw[Int.toNat_natCast,List.getD_eq_getElem?_getD,List.getElem?_eq_getElem hj]at this
  exact this
 ·obtain⟨r,hr,rfl⟩:=List.mem_map.mp hy
  obtain⟨rl,rc⟩:=Nar.lr_mem.mp hr
  have ha:∀ v:Int,0<=v->v<n->r.getD v.toNat 0∈ch ps v:=fun v v0 v1=>by
   have:=rc v.toNat (by omega)
   rw[show((v.toNat:Nat):Int)=v by omega]at this
   rw[List.getD_eq_getElem?_getD,List.getElem?_eq_getElem (by omega)]
   exact this
  have ge:=Hng.cost_ge (a:=fun v=>r.getD v.toNat 0) HG T ne ha
  rw[<- Hng.pay_sum HG.tie]at ge
  have m:=Hng.mv_lst (ps:=ps) ne (R:=R) (v:=0) (q:=ps.getD 0 0) (w:=0) (ks:=kids L 0)
  rw[<- T 0 (Int.le_refl _) (by omega),<- ez]at m
  have:=m.le _ (List.mem_map.mpr ⟨r.getD 0 0,ha 0 (Int.le_refl _) (by omega),rfl⟩)
  have e:(if r.getD 0 0=ps.getD 0 0 then due ps R (kids L 0) (r.getD 0 0)else due ps R (kids L 0) (r.getD 0 0)+0)=due ps R (kids L 0) (r.getD 0 0):=by split <;> omega
  rw[e]at this
  exact Int.le_trans this ge
end
noncomputable def dRows(R:Int->List (Option Int))(l:List Nat):Dt:=.lst (l.map fun(j:Nat)=>Dt.lst ((R j).map oD))
noncomputable def dTold(z:Int)(os:List Int)(R:Int->List (Option Int))(n:Nat):Dt:=.tup [.int z,.tup (os.map Dt.int),dRows R (List.range n)]
theorem okDs_of{ds:List Dt}(h:∀ d∈ds,okD d):okDs ds:=by
 induction ds with
 |nil=>trivial
 |cons d ds ih=>exact⟨h d (List.mem_cons_self ..),ih fun x hx=>h x (List.mem_cons_of_mem _ hx)⟩
theorem szs_le{ds:List Dt}{m:Nat}(h:∀ d∈ds,szD d<=m):szs ds<=ds.length * (m+2):=by
 induction ds with
 |nil=>exact Nat.zero_le _
 |cons d ds ih =>
  have h1:=h d (List.mem_cons_self ..)
  have h2:=ih fun x hx=>h x (List.mem_cons_of_mem _ hx)
  show szD d+2+szs ds<=(ds.length+1) * (m+2)
  rw[Nat.succ_mul]
  omega
theorem ok_row{r:List (Option Int)}(h:∀ x∈r,∀ i,x=some i->i.natAbs<2 ^ 100):okD (.lst (r.map oD)):=okDs_of fun d hd=>by
 obtain⟨x,hx,rfl⟩:=List.mem_map.mp hd
 cases x with
 |none=>trivial
 |some i=>exact h _ hx i rfl
theorem sz_row{r:List (Option Int)}(h:r.length<=6):szD (.lst (r.map oD))<=1000:=by
 have:=szs_le (ds:=r.map oD) (m:=102) fun d hd=>by
  obtain⟨x,hx,rfl⟩:=List.mem_map.mp hd
  cases x with
  |none=>show 4<=102;decide
  |some i=>exact Nat.le_refl _
 rw[List.length_map]at this
 show 3+szs (r.map oD)<=1000
 have:r.length * (102+2)<=6 * 104:=Nat.mul_le_mul_right 104 h
 omega
theorem sz_rows{R:Int->List (Option Int)}{l:List Nat}(h:∀ j∈l,(R j).length<=6)(hl:l.length<=30):szD (dRows R l)<=40000:=by
 have:=szs_le (ds:=l.map fun(j:Nat)=>Dt.lst ((R j).map oD)) (m:=1000) fun d hd=>by
  obtain⟨j,hj,rfl⟩:=List.mem_map.mp hd
  exact sz_row (h j hj)
 rw[List.length_map]at this
 show 3+szs (l.map fun(j:Nat)=>Dt.lst ((R j).map oD))<=40000
 have:l.length * (1000+2)<=30 * 1002:=Nat.mul_le_mul_right 1002 hl
 omega
theorem ok_rows{R:Int->List (Option Int)}{l:List Nat}(h:∀ j∈l,∀ x∈R j,∀ i,x=some i->i.natAbs<2 ^ 100):okD (dRows R l):=okDs_of fun d hd=>by
 obtain⟨j,hj,rfl⟩:=List.mem_map.mp hd
 exact ok_row (h j hj)
theorem cut1'(xs:List V):cutV xs (some 1) none=xs.drop 1:=by
 cases xs with
 |nil=>rfl
 |cons x xs=>exact cut1 xs x
theorem dat_rows{G:Hp}{a:Addr}{as:List Addr}{R:Int->List (Option Int)}{l:List Nat}(ga:G a=some (.lst (as.map V.ref)))(al:as.length=l.length)(len:l.length<=30)(h:∀ (i:Nat) (h1:i<as.length) (h2:i<l.length),G as[i]=some (.lst ((R l[i]).map oI))/\(R l[i]).length<=6):Dat G 2 (.ref a) (dRows R l):=by
 refine⟨a,_,rfl,by rw[List.length_map];omega,ga,paired_of (by rw[List.length_map,List.length_map,al]) fun i h1 h2=>?_⟩
 rw[List.length_map]at h1
 rw[List.getElem_map,List.getElem_map]
 have:=h i h1 (by omega)
 exact dat_row this.1 (by omega)
structure Fr(P:Program)(w:World)(K:PySem.W.Frag)(mg:Str->Option Value)(base:Heap)(g1 g2 g3 g4 g5 g6 g7 g8:Addr)(d1 d2 d3 d4 d5 d6 d7 d8:FuncData):Prop where
 many:CalF P w K mg base 2 "_law_many" ["_law_box_here","_law_least","_law_few","_law_most"] spMany g1 d1
 tree:CalF P w K mg base 3 "_law_tree" ["_law_box_here","_law_many_here"] spTree g2 d2
 posts:CalF P w K mg base 2 "_law_posts" ["_law_box_here","_law_many_here","_law_most"] spPo g3 d3
 lt:CalF P w K mg base 3 "least_on_tree" ["web","posts"] spLt g4 d4
 told:CalF P w K mg base 5 "_law_is_told" ["_law_web","_law_posts_here","_law_told"] spIt g5 d5
 count:CalF P w K mg base 1 "_law_count" ["_law_web","_law_posts_here"] spCn g6 d6
 cost:CalF P w K mg base 1 "_law_cost" ["_law_web","_law_owners"] spCo g7 d7
 rows:CalF P w K mg base 1 "_law_rows" ["_law_web","_law_posts_here"] spRo g8 d8
noncomputable def spRi:Sp:=fun vs H Q _=>∃ (p:Addr),vs=[.ref p]/\BoxAt H p 0/\∀ H',Kept p H H'->Q (.bl true) H'
theorem kept_s{p:Addr}{H H':Hp}(s:Same H H'):Kept p H H':=fun b o _ e=>s b o e
section
variable{P:Program}{w:World}{K:PySem.W.Frag}{mg:Str->Option Value}{base:Heap}
noncomputable abbrev nRi:List Str:=["_law_box_here","_law_web","_law_posts_here","_law_handed","_law_told","_law_kept","_law_rest","_law_other","_law_again"]
theorem scRi:FnScope nRi ["_law_box_here"] (defScope sRight):=⟨rfl,rfl,rfl,by decide +kernel,rfl,by decide +kernel,by decide +kernel⟩
theorem csRi1:CompScope ["_law_row","_law_web"] [none,some 1] nRi (defScope sRight) (scO [(".0",.local),("_law_row",.local),("_law_cost",.globalImplicit),("_law_web",.free)]):=⟨rfl,by decide +kernel,by decide +kernel,by decide +kernel,rfl,capB_ok (by decide +kernel)⟩
theorem ndRi1:(["_law_row","_law_web"]:List Str).Nodup:=by decide +kernel
theorem ok_ri{f g1 g2 g3 g4 g5 g6 g7 g8:Addr}{fd d1 d2 d3 d4 d5 d6 d7 d8:FuncData}(F:Fun K "_law_right" "_law_right" sRight f fd)(T:Txt mg)(S:Fr P w K mg base g1 g2 g3 g4 g5 g6 g7 g8 d1 d2 d3 d4 d5 d6 d7 d8):FnOk P w K mg base CX0 6 f fd ["_law_box_here"] spRi:=by
 refine F.ok scRi (fun vs H Q E h=>?_) (fun cdv A outer s H vs Q E hr h=>?_)
 ·obtain⟨p,rfl,_⟩:=h
  rfl
 ·obtain⟨p,rfl,B,q⟩:=h
  have hr1:Room 1 _:=hr.mono (by decide)
  have hr2:Room 2 _:=hr.mono (by decide)
  have hr3:Room 3 _:=hr.mono (by decide)
  have hr5:Room 5 _:=hr
  have hu64:=L2.hu64 hr
  refine⟨_,(pss_cons (ps_set (i:=1) scRi.nd rfl (Or.inr rfl) (pe_call S.tree.ok hr3 rfl S.tree.mg S.tree.kp S.tree.bd .nil pass0 (@pa_nam _ _ _ _ _ _ (pv 0) (@pa_call _ _ _ _ _ _ _ _ (pe_call S.many.ok hr2 rfl S.many.mg S.many.kp S.many.bd .nil pass0 (@pa_nam _ _ _ _ _ _ (pv 0) (@pa_cst _ _ _ _ _ _ _ pe_int (@pa_cst _ _ _ _ _ _ _ pe_int (@pa_cst _ _ _ _ _ _ _ pe_int pa_nil))))) pa_nil))))
   (pss_cons (ps_set (i:=2) scRi.nd rfl (Or.inl rfl) (pe_call S.posts.ok hr2 rfl S.posts.mg S.posts.kp S.posts.bd .nil pass0 (@pa_nam _ _ _ _ _ _ (pv 0) (@pa_sub _ _ _ _ _ _ _ (@pe_ix _ _ _ _ _ _ _ ix_tupH (pv 1) pe_int (fun _ _=>rfl)) (@pa_cst _ _ _ _ _ _ _ pe_int pa_nil)))))
   (pss_cons (ps_set (i:=3) scRi.nd rfl (Or.inl rfl) (pe_callTy (call_listH false) (by rfl) T.list boot_list (@pa_nam _ _ _ _ _ _ (pv 2) pa_nil)))
   (pss_cons (ps_set (i:=4) scRi.nd rfl (Or.inl rfl) (pe_call S.lt.ok hr3 rfl S.lt.mg S.lt.kp S.lt.bd .nil pass0 (@pa_nam _ _ _ _ _ _ (pv 1) (@pa_nam _ _ _ _ _ _ (pv 3) pa_nil))))
   (pss_cons (ps_if (PW.pt (pw_or (pt_not (pt_val (pe_call S.told.ok hr5 rfl S.told.mg S.told.kp S.told.bd .nil pass0 (@pa_nam _ _ _ _ _ _ (pv 1) (@pa_nam _ _ _ _ _ _ (pv 2) (@pa_nam _ _ _ _ _ _ (pv 4) pa_nil)))))) (pw_or1 (pt_cmpR (op_neS hu64) (pv 3) (pv 2) (nomark _))))) pss_never pss_nil)
   (pss_cons (ps_expr (pe_bm0H PySem.F.slot_list_reverse PySem.F.type_list_reverse mt_reverse (pv 3)))
   (pss_cons (ps_par (i:=5) (j:=6) rfl scRi.nd rfl rfl (by decide) rfl rfl (@pa_call _ _ _ _ _ _ _ _ (pe_callTy (call_strD hr.gd hr.units) (by rfl) T.str boot_str (@pa_nam _ _ _ _ _ _ (pv 4) pa_nil)) (@pa_call _ _ _ _ _ _ _ _ (pe_callTy (call_strD hr.gd hr.units) (by rfl) T.str boot_str (@pa_sub _ _ _ _ _ _ _ (pe_slice sl_list (@pe_ix _ _ _ _ _ _ _ ix_tupH (pv 4) pe_int (fun _ _=>rfl)) (po_some pe_int) po_none) pa_nil)) pa_nil)) rfl)
   (pss_cons (ps_expr (pe_bmH PySem.F.slot_list_append PySem.F.type_list_append mt_append (@pe_ix _ _ _ _ _ _ _ ix_listH (@pe_ix _ _ _ _ _ _ _ ix_tupH (pv 4) pe_int (fun _ _=>rfl)) pe_int (fun _ _=>rfl)) (@pa_cst _ _ _ _ _ _ _ pe_int pa_nil)))
   (pss_cons (ps_if (pt_cmpR op_ne (pe_callTy (call_strD hr.gd hr.units) (by rfl) T.str boot_str (@pa_sub _ _ _ _ _ _ _ (pe_slice sl_list (@pe_ix _ _ _ _ _ _ _ ix_tupH (pv 4) pe_int (fun _ _=>rfl)) (po_some pe_int) po_none) pa_nil)) (pv 6) (nomark _)) pss_never pss_nil)
   (pss_cons (ps_expr (pe_bm0H PySem.F.slot_list_reverse PySem.F.type_list_reverse mt_reverse (@pe_ix _ _ _ _ _ _ _ ix_tupH (pv 4) pe_int (fun _ _=>rfl))))
   (pss_cons (ps_set (i:=7) scRi.nd rfl (Or.inl rfl) (pe_call S.posts.ok hr2 rfl S.posts.mg S.posts.kp S.posts.bd .nil pass0 (@pa_nam _ _ _ _ _ _ (pv 0) (@pa_sub _ _ _ _ _ _ _ (@pe_ix _ _ _ _ _ _ _ ix_tupH (pv 1) pe_int (fun _ _=>rfl)) (@pa_cst _ _ _ _ _ _ _ pe_int pa_nil)))))
   (pss_cons (ps_if (pt_not (pt_val (pe_call S.told.ok hr5 rfl S.told.mg S.told.kp S.told.bd .nil pass0 (@pa_nam _ _ _ _ _ _ (pv 1) (@pa_nam _ _ _ _ _ _ (pv 7) (@pa_call _ _ _ _ _ _ _ _ (pe_call S.lt.ok hr3 rfl S.lt.mg S.lt.kp S.lt.bd .nil pass0 (@pa_nam _ _ _ _ _ _ (pv 1) (@pa_nam _ _ _ _ _ _ (pv 7) pa_nil))) pa_nil)))))) pss_never pss_nil)
   (pss_cons (ps_set (i:=8) scRi.nd rfl (Or.inl rfl) (pe_call S.lt.ok hr3 rfl S.lt.mg S.lt.kp S.lt.bd .nil pass0 (@pa_nam _ _ _ _ _ _ (pv 1) (@pa_call _ _ _ _ _ _ _ _ (pe_callTy call_tupleH (by rfl) T.tuple boot_tuple (@pa_nam _ _ _ _ _ _ (pv 2) pa_nil)) pa_nil))))
   (pss_cons (ps_if (pt_cmpR op_ne (pe_callTy (call_strD hr.gd hr.units) (by rfl) T.str boot_str (@pa_nam _ _ _ _ _ _ (pv 8) pa_nil)) (pv 5) (nomark _)) pss_never pss_nil)
   (pss_cons (ps_if (pt_cmpR op_gt (pe_call S.count.ok hr1 rfl S.count.mg S.count.kp S.count.bd .nil pass0 (@pa_nam _ _ _ _ _ _ (pv 1) (@pa_nam _ _ _ _ _ _ (pv 2) pa_nil))) pe_int (nomark _)) (pss_one (ps_ret pe_bl)) pss_nil)
   (pss_one (ps_ret (pe_cmpR op_eq (@pe_ix _ _ _ _ _ _ _ ix_tupH (pv 8) pe_int (fun _ _=>rfl)) (pe_callB (call_minLH rfl) (by rfl) T.min boot_min (@pa_comp _ _ _ _ _ _ _ _ (pe_comp rfl csRi1 (pi_list (pe_call S.rows.ok hr1 rfl S.rows.mg S.rows.kp S.rows.bd .nil pass0 (@pa_nam _ _ _ _ _ _ (pv 1) (@pa_nam _ _ _ _ _ _ (pv 2) pa_nil)))) (fun C s H fp=>(pg_name (i:=0) ndRi1 rfl (Or.inl rfl))) (fun C s H fp=>pf_nil) (fun C s H fp=>(pe_call S.cost.ok hr1 rfl S.cost.mg S.cost.kp S.cost.bd .nil pass0 (@pa_nam _ _ _ _ _ _ (pv 1) (@pa_nam _ _ _ _ _ _ (pv 0) pa_nil))))) pa_nil)) (nomark _))))))))))))))))))),?_⟩
  refine⟨_,rfl,_,rfl,p,2,6,30,_,rfl,B,by decide,by decide,by decide,by decide,by decide,fun y H1 hy B1 k1=>?_⟩
  obtain⟨n,rfl⟩:∃ n:Nat,y=(n:Int):=⟨y.toNat,by omega⟩
  have n2:2<=n:=by omega
  have n30:n<=30:=by omega
  refine⟨p,n,_,rfl,B1,by decide,by omega,n30,fun t ties H2 W2 ok tlen pw TA B2 k2=>?_⟩
  have n1:1<=n:=by omega
  have tr:=TA.tree
  have nt:=ties_nodup pw
  have TO:TreeOk n ties:=⟨ok,n30,n1,tr,nt,tlen⟩
  obtain⟨⟨ts,bs,h1,h2,h3⟩,len⟩:=id W2
  have tp:t≠p:=fun z=>by
   obtain⟨x1,x2,x3,eb,_⟩:=B2
   rw[z,eb]at h1
   cases h1
  obtain⟨L,HG⟩:=Hng.hang_ex n1 tr (fun x hx=>⟨(ok x hx).1,(ok x hx).2.1,(ok x hx).2.2.1⟩) nt tlen
  have wts:∀ h∈L,0<=h.2.2/\h.2.2<=1073741824:=fun h hh=>by
   have:=HG.tie.mem_iff.mpr (List.mem_map.mpr ⟨h,hh,rfl⟩)
   obtain⟨_,_,_,o4,o5⟩:=ok _ this
   unfold toTie at o4 o5
   split at o4 <;> split at o5 <;> exact⟨by have:1<=h.2.2:=o4;omega,o5⟩
  refine⟨_,rfl,_,rfl,t,_,_,_,rfl,rfl,h1,atI_nat (j:=0) rfl,p,n,_,6,rfl,B2,by decide,by omega,n30,by decide,by decide,fun l ps H3 hl gl lp po p2 pmo B3 k3=>?_⟩
  have W3:=W2.kept B2 k3
  have w1:=k3 _ _ tp h1
  have pne:ps≠[]:=fun z=>by rw[z]at p2;exact absurd p2 (by decide)
  have p6:=po.hi
  have Rl:∀ {R:Int->List (Option Int)},Tab n ps L R->∀ v:Int,0<=v->v<n->(R v).length=ps.length:=fun {R} TB v v0 v1=>by rw[TB v v0 v1];unfold rowOf;rw[List.length_map]
  have Rb:∀ {R:Int->List (Option Int)},Tab n ps L R->∀ v:Int,0<=v->v<n->∀ x∈R v,∀ i,x=some i->i.natAbs<2 ^ 100:=fun {R} TB v v0 v1 x hx i e=>by
   rw[TB v v0 v1]at hx
   obtain⟨o,_,eo⟩:=List.mem_map.mp hx
   have eo:(if opn ps v o then some (due ps R (kids L v) o)else none)=x:=eo
   rw[e]at eo
   split at eo
   ·injection eo with eo
    have:=Hng.due_small HG TB pne (m:=1073741824) (by decide) wts (q:=o) v0 v1
    rw[eo]at this
    have:(n:Int) * 1073741824<=30 * 1073741824:=by omega
    omega
   ·cases eo
  refine⟨_,rfl,l,_,rfl,gl,fun hd hhd=>?_⟩
  have shd:=Same.new (o:=.lst (ps.map V.int)) hhd
  have ghd:(upd H3 hd (.lst (ps.map V.int))) hd=some (.lst (ps.map V.int)):=upd_same
  generalize (upd H3 hd (.lst (ps.map V.int)))=H4 at shd ghd
  refine⟨_,rfl,_,rfl,false,t,hd,n,ties,ps,L,rfl,W3.same shd,ok,n30,HG,ghd,pne,by omega,fun r ow tb z os R H5 gr gow TN tb0 TB ez OW s5=>?_⟩
  have s35:=shd.trans s5
  refine⟨_,rfl,_,rfl,_,rfl,t,l,r,ow,tb,n,ties,ps,os,L,R,z,rfl,W3.same s35,TO,HG,s35 _ _ gl,po.nd,pne,p6,po.rg,gr,gow,TN.tab,TB,ez,OW,fun H6 s6=>⟨_,rfl,iteF ?_⟩⟩
  have s36:=s35.trans s6
  have ghd6:=s6 _ _ (s5 _ _ ghd)
  refine⟨_,rfl,_,rfl,0,.lst (ps.map Dt.int),dat_ints 0 ghd6 (by omega),dat_ints 0 (s36 _ _ gl) (by omega),rfl,by decide,_,rfl,iteF ?_⟩
  refine⟨_,rfl,⟨hd,_,rfl,ghd6⟩,hd,_,rfl,rfl,ghd6,?_⟩
  have hh3:H3 hd=none:=hhd
  obtain⟨as,al,gtb,⟨asnd,asn⟩,grw⟩:=id TN
  have hdtb:hd≠tb:=fun e=>by rw[e,tb0]at ghd;cases ghd
  have hdas:∀ a∈as,a≠hd:=fun a ha e=>by rw[<- e,(asn a ha).2]at ghd;cases ghd
  have s37:Same H3 (upd H6 hd (.lst (ps.map V.int).reverse)):=same_put s36 hh3
  have gr7:(upd H6 hd (.lst (ps.map V.int).reverse)) r=some (.tup [.int z,.ref ow,.ref tb]):=by rw[upd_ne (fun e=>by have:=s6 _ _ gr;rw[e,ghd6]at this;cases this)];exact s6 _ _ gr
  have gow7:(upd H6 hd (.lst (ps.map V.int).reverse)) ow=some (.tup (os.map V.int)):=by rw[upd_ne (fun e=>by have:=s6 _ _ gow;rw[e,ghd6]at this;cases this)];exact s6 _ _ gow
  have gtb7:(upd H6 hd (.lst (ps.map V.int).reverse)) tb=some (.lst (as.map V.ref)):=by rw[upd_ne (Ne.symm hdtb)];exact s6 _ _ gtb
  have grw7:∀ (i:Nat) (h:i<as.length),(upd H6 hd (.lst (ps.map V.int).reverse)) as[i]=some (.lst ((R i).map oI)):=fun i hi=>by rw[upd_ne (hdas _ (List.getElem_mem hi))];exact s6 _ _ (grw i hi)
  generalize (upd H6 hd (.lst (ps.map V.int).reverse))=H7 at s37 gr7 gow7 gtb7 grw7
  have R6:∀ j:Nat,j<n->(R j).length<=6:=fun j hj=>by rw[Rl TB j (by omega) (by omega)];exact p6
  have psb:∀ {os:List Int}{R:Int->List (Option Int)}{z:Int},Tab n ps L R->Own n ps L R os z->∀ x∈os,x.natAbs<2 ^ 100:=fun {os R z} TB O x hx=>by
   obtain⟨i,hi,rfl⟩:=List.getElem_of_mem hx
   have:=own_in HG TB O (v:=i) (by omega) (by have:=O.len;omega)
   rw[Int.toNat_natCast,List.getD_eq_getElem?_getD,List.getElem?_eq_getElem hi]at this
   have:=po.rg _ (Hng.mem_ch.mp this).1
   have this:0<=os[i]/\os[i]<n:=this
   omega
  have zb:∀ {os:List Int}{R:Int->List (Option Int)}{z:Int},Tab n ps L R->Own n ps L R os z->z.natAbs<2 ^ 100:=fun {os R z} TB O=>by
   have r:=O.root.1
   rw[TB 0 (Int.le_refl _) (by omega)]at r
   have e:=(Hng.lo_row.mp r).2
   have d:=Hng.due_small HG TB pne (m:=1073741824) (by decide) wts (v:=0) (q:=os.getD 0 0) (Int.le_refl _) (by omega)
   have e:z=if os.getD 0 0=ps.getD 0 0 then due ps R (kids L 0) (os.getD 0 0)else due ps R (kids L 0) (os.getD 0 0)+0:=e
   have e:z=due ps R (kids L 0) (os.getD 0 0):=by rw[e];split <;> omega
   rw[<- e]at d
   have:(n:Int) * 1073741824<=30 * 1073741824:=by omega
   omega
  have okT:∀ {os:List Int}{R:Int->List (Option Int)}{z:Int},Tab n ps L R->Own n ps L R os z->okD (dTold z os R n)/\szD (dTold z os R n)<=sizeLine:=fun {os R z} TB O=>by
   refine⟨⟨zb TB O,okDs_of (fun d hd=>by obtain⟨x,hx,rfl⟩:=List.mem_map.mp hd;exact psb TB O x hx),ok_rows (fun j hj=>Rb TB j (by omega) (by have:=List.mem_range.mp hj;omega)),trivial⟩,?_⟩
   have a1:=szs_le (ds:=os.map Dt.int) (m:=102) fun d hd=>by obtain⟨x,hx,rfl⟩:=List.mem_map.mp hd;exact Nat.le_refl _
   have a2:=sz_rows (R:=R) (l:=List.range n) (fun j hj=>by rw[Rl TB j (by omega) (by have:=List.mem_range.mp hj;omega)];exact p6) (by rw[List.length_range];exact n30)
   rw[List.length_map,O.len]at a1
   have:n * (102+2)<=30 * 104:=Nat.mul_le_mul_right 104 n30
   show 3+(102+2+((3+szs (os.map Dt.int))+2+(szD (dRows R (List.range n))+2+0)))<=sizeLine
   rw[sizeLine_eq]
   omega
  have datT:∀ {G:Hp}{r ow tb:Addr}{as:List Addr}{os:List Int}{R:Int->List (Option Int)}{z:Int},Tab n ps L R->Own n ps L R os z->G r=some (.tup [.int z,.ref ow,.ref tb])->G ow=some (.tup (os.map V.int))->as.length=n->G tb=some (.lst (as.map V.ref))->(∀ (i:Nat) (h:i<as.length),G as[i]=some (.lst ((R i).map oI)))->Dat G 3 (.ref r) (dTold z os R n):=fun {G r ow tb as os R z} TB O gr gow al gtb grw =>
   ⟨r,_,rfl,by show 3<=1000;decide,gr,.cons rfl (.cons (dat_intsT 1 gow (by have:=O.len;omega)) (.cons (dat_rows gtb (by rw[List.length_range,al]) (by rw[List.length_range];exact n30) fun i h1 h2=>by
    rw[List.getElem_range]
    exact⟨grw i h1,by rw[Rl TB i (by omega) (by omega)];exact p6⟩) .nil))⟩
  have okR:okD (dRows R ((List.range n).drop 1))/\szD (dRows R ((List.range n).drop 1))<=sizeLine:=by
   have lt:∀ j∈(List.range n).drop 1,j<n:=fun j hj=>List.mem_range.mp (List.mem_of_mem_drop hj)
   refine⟨ok_rows fun j hj=>Rb TB j (by omega) (by have:=lt j hj;omega),?_⟩
   have:=sz_rows (R:=R) (l:=(List.range n).drop 1) (fun j hj=>R6 j (lt j hj)) (by rw[List.length_drop,List.length_range];omega)
   rw[sizeLine_eq]
   omega
  have datR:∀ {G:Hp}{a:Addr},G a=some (.lst ((as.drop 1).map V.ref))->(∀ (i:Nat) (h:i<as.length),1<=i->G as[i]=some (.lst ((R i).map oI)))->Dat G 2 (.ref a) (dRows R ((List.range n).drop 1)):=fun {G a} ga gw =>
   dat_rows ga (by rw[List.length_drop,List.length_drop,List.length_range,al]) (by rw[List.length_drop,List.length_range];omega) fun i h1 h2=>by
    rw[List.length_drop]at h1
    rw[List.getElem_drop,List.getElem_drop,List.getElem_range]
    exact⟨gw (1+i) (by omega) (by omega),R6 (1+i) (by omega)⟩
  obtain⟨ot,st⟩:=okT TB OW
  refine⟨_,rfl,r,3,dTold z os R n,rfl,datT TB OW gr7 gow7 al gtb7 grw7,by decide,ot,st,?_⟩
  refine⟨_,rfl,r,_,_,_,rfl,rfl,gr7,atI_nat (j:=2) rfl,_,rfl,tb,_,rfl,SqL.of gtb7,fun c1 hc1=>?_⟩
  rw[cut1',<- List.map_drop]
  have sc1:=Same.new (o:=.lst ((as.drop 1).map V.ref)) hc1
  refine⟨c1,2,dRows R ((List.range n).drop 1),rfl,datR upd_same (fun i hi _=>sc1 _ _ (grw7 i hi)),by decide,okR.1,okR.2,_,_,rfl,?_⟩
  have gr8:=sc1 _ _ gr7
  have gtb8:=sc1 _ _ gtb7
  have grw8:∀ (i:Nat) (h:i<as.length),(upd H7 c1 (.lst ((as.drop 1).map V.ref))) as[i]=some (.lst ((R i).map oI)):=fun i hi=>sc1 _ _ (grw7 i hi)
  have s38:=s37.trans sc1
  generalize (upd H7 c1 (.lst ((as.drop 1).map V.ref)))=H8 at gr8 gtb8 grw8 s38
  have a0l:0<as.length:=by omega
  have at0:atI (as.map V.ref) 0=some (V.ref as[0]):=atI_nat (j:=0) (by rw[List.getElem?_map,List.getElem?_eq_getElem a0l];rfl)
  have g80:=grw8 0 a0l
  refine⟨_,rfl,r,_,_,_,rfl,rfl,gr8,atI_nat (j:=2) rfl,tb,_,_,_,rfl,rfl,gtb8,at0,⟨as[0],_,rfl,g80⟩,as[0],_,_,rfl,rfl,g80,by rw[List.length_map,sizeLine_eq];have:=R6 0 (by omega);have this:(R ((0:Nat):Int)).length<=6:=this;omega,?_⟩
  have am:=List.getElem_mem a0l
  have a3:H3 as[0]=none:=shd.free (asn _ am).2
  have s39:Same H3 (upd H8 as[0] (.lst ((R ((0:Nat):Int)).map oI++[.int 7]))):=same_put s38 a3
  have gr9:(upd H8 as[0] (.lst ((R ((0:Nat):Int)).map oI++[.int 7]))) r=some (.tup [.int z,.ref ow,.ref tb]):=by rw[upd_ne (fun e=>by rw[e,g80]at gr8;cases gr8)];exact gr8
  have gtb9:(upd H8 as[0] (.lst ((R ((0:Nat):Int)).map oI++[.int 7]))) tb=some (.lst (as.map V.ref)):=by rw[upd_ne (Ne.symm (asn _ am).1)];exact gtb8
  have grw9:∀ (i:Nat) (h:i<as.length),1<=i->(upd H8 as[0] (.lst ((R ((0:Nat):Int)).map oI++[.int 7]))) as[i]=some (.lst ((R i).map oI)):=fun i hi i1=>by
   rw[upd_ne (fun e=>by have:=(List.getElem_inj asnd).mp e;omega)]
   exact grw8 i hi
  generalize (upd H8 as[0] (.lst ((R ((0:Nat):Int)).map oI++[.int 7])))=H9 at s39 gr9 gtb9 grw9
  refine⟨_,rfl,r,_,_,_,rfl,rfl,gr9,atI_nat (j:=2) rfl,_,rfl,tb,_,rfl,SqL.of gtb9,fun c2 hc2=>?_⟩
  rw[cut1',<- List.map_drop]
  have sc2:=Same.new (o:=.lst ((as.drop 1).map V.ref)) hc2
  refine⟨c2,2,dRows R ((List.range n).drop 1),rfl,datR upd_same (fun i hi i1=>sc2 _ _ (grw9 i hi i1)),by decide,okR.1,okR.2,_,rfl,rfl,_,rfl,iteNS rfl ?_⟩
  have gr10:=sc2 _ _ gr9
  have gtb10:=sc2 _ _ gtb9
  have s310:=s39.trans sc2
  generalize (upd H9 c2 (.lst ((as.drop 1).map V.ref)))=H10 at gr10 gtb10 s310
  refine⟨_,rfl,r,_,_,_,rfl,rfl,gr10,atI_nat (j:=2) rfl,⟨tb,_,rfl,gtb10⟩,tb,_,rfl,rfl,gtb10,?_⟩
  have s311:Same H3 (upd H10 tb (.lst (as.map V.ref).reverse)):=same_put s310 (shd.free tb0)
  generalize (upd H10 tb (.lst (as.map V.ref).reverse))=H11 at s311
  clear gr7 gow7 gtb7 grw7 gr8 gtb8 grw8 gr9 gtb9 grw9 gr10 gtb10 sc1 sc2 s37 s38 s39 s310 g80
  have B11:=B3.same s311
  have W11:=W3.same s311
  refine⟨_,rfl,_,rfl,t,_,_,_,rfl,rfl,s311 _ _ w1,atI_nat (j:=0) rfl,p,n,_,6,rfl,B11,by decide,by omega,n30,by decide,by decide,fun l' ps' H12 hl' gl' lp' po' p2' pmo' B12 k12=>?_⟩
  have W12:=W11.kept B11 k12
  have gl12:=k12 _ _ lp (s311 _ _ gl)
  have pne':ps'≠[]:=fun z=>by rw[z]at p2';exact absurd p2' (by decide)
  have p6':=po'.hi
  refine⟨_,rfl,_,rfl,_,rfl,_,rfl,false,t,l',n,ties,ps',L,rfl,W12,ok,n30,HG,gl',pne',by omega,fun r2 ow2 tb2 z2 os2 R2 H13 gr2 gow2 TN2 _ TB2 ez2 OW2 s13=>?_⟩
  refine⟨t,l',r2,ow2,tb2,n,ties,ps',os2,L,R2,z2,rfl,W12.same s13,TO,HG,s13 _ _ gl',po'.nd,pne',p6',po'.rg,gr2,gow2,TN2.tab,TB2,ez2,OW2,fun H14 s14=>⟨_,rfl,iteF ?_⟩⟩
  have s1214:=s13.trans s14
  refine⟨_,rfl,_,rfl,l,_,rfl,s1214 _ _ gl12,fun tu htu=>?_⟩
  have stu:=Same.new (o:=.tup (ps.map V.int)) htu
  refine⟨true,t,tu,n,ties,ps,L,rfl,(W12.same s1214).same stu,ok,n30,HG,upd_same,pne,by omega,fun r3 ow3 tb3 z3 os3 R3 H15 gr3 gow3 TN3 _ TB3 ez3 OW3 s15=>?_⟩
  have eR:∀ v:Int,0<=v->v<n->R3 v=R v:=fun v v0 v1=>Hng.tab_one HG TB3 TB pne v0 v1
  have OW4:Own n ps L R os3 z3:=by
   refine⟨OW3.len,?_,fun h hh=>?_⟩
   ·rw[<- eR 0 (Int.le_refl _) (by omega)]
    exact OW3.root
   ·have:=OW3.each h hh
    unfold Gd at this ⊢
    rw[<- eR h.1 (HG.rg h hh).1 (HG.rg h hh).2]
    exact this
  obtain⟨eos,ezz⟩:=own_one HG OW4 OW
  subst eos ezz
  obtain⟨as3,al3,gtb3,_,grw3⟩:=id TN3
  refine⟨_,rfl,r3,3,dTold z3 os3 R n,rfl,datT TB OW gr3 gow3 al3 gtb3 (fun i hi=>by rw[grw3 i hi,eR i (by omega) (by omega)]),by decide,ot,st,_,rfl,rfl,_,rfl,iteNS rfl ?_⟩
  have s1215:=s1214.trans (stu.trans s15)
  have W15:=W12.same s1215
  have gl15:=s1215 _ _ gl12
  refine⟨_,rfl,_,rfl,t,l,n,ties,ps,rfl,W15,n30,gl15,p6,fun H16 s16=>⟨_,_,rfl,rfl,_,rfl,ite2 (fun _=>?_) (fun hc=>?_)⟩⟩
  ·exact q _ (k1.trans (k2.trans (k3.trans ((kept_s s311).trans (k12.trans (kept_s (s1215.trans s16)))))))
  have cnt:(ps.length:Int) ^ (n-ps.length)<=1100:=by
   have hc:¬ decide ((ps.length:Int) ^ (n-ps.length) > 1100)=true:=hc
   have:=of_decide_eq_false (Bool.eq_false_iff.mpr hc)
   omega
  have cntN:ps.length ^ (n-ps.length)<=1100:=by
   have:((ps.length ^ (n-ps.length):Nat):Int)<=1100:=by rw[Int.natCast_pow];exact cnt
   omega
  have few:∀ j,j<=n->(LR ps j).length<=1100:=fun j hj=>by
   have o:=Nar.upn n
   have al:∀ j:Nat,j<n->(j:Int)∈(List.range n).map fun(i:Nat)=>(i:Int):=fun j h=>Nar.ord_all (List.Perm.refl _) h
   rw[Nar.lr_rl hj,Nar.rl_pow o hj]
   have h1:=Nar.non_posts o al po.nd po.rg
   have h2:((((List.range n).map fun(i:Nat)=>(i:Int)).take j).filter fun p=>decide (p∉ps)).length<=(((List.range n).map fun(i:Nat)=>(i:Int)).filter fun p=>decide (p∉ps)).length:=((List.take_sublist j _).filter _).length_le
   exact Nat.le_trans (Nat.pow_le_pow_right (by omega) (show _<=n-ps.length by omega)) cntN
  have s1516:=s16
  refine⟨_,rfl,r3,_,_,_,rfl,rfl,s16 _ _ gr3,atI_nat (j:=0) rfl,_,rfl,_,rfl,t,l,n,ties,ps,rfl,W15.same s16,n30,s16 _ _ gl15,few,p6,fun rl as4 H17 grl pa4 s17=>⟨rl,rfl,⟨_,SqL.of grl⟩,?_⟩⟩
  have al4:=pa4.length
  have W17:=(W15.same s16).same s17
  have fn:=few n (Nat.le_refl _)
  refine comp_list (K:=K) (a:=rl) (xs:=as4.map V.ref) (fun i zs G=>Same H17 G/\zs=(((LR ps n).take i).map fun r=>(ties.map (tpay fun v=>r.getD v.toNat 0)).sum).map V.int) (by rw[List.length_map,sizeLine_eq];omega) ⟨Same.refl _,rfl⟩ (fun i zs G _ y=>SqL.of (y.1 _ _ grl)) ?_ ?_
  ·rintro i x zs G hx ⟨sG,rfl⟩
   obtain⟨il,ex⟩:=List.getElem?_eq_some_iff.mp hx
   rw[List.length_map]at il
   rw[List.getElem_map]at ex
   subst ex
   have it:i <(LR ps n).length:=by omega
   have ga:=sG _ _ (Paired.at pa4 i il it)
   have rlen:=(Nar.lr_mem.mp (List.getElem_mem it)).1
   rw[List.take_succ_eq_append_getElem it,List.map_append,List.map_append]
   generalize (LR ps n)[i]=rr at *
   generalize as4[i]=a at *
   exact⟨⟨rfl,trivial⟩,tTru_if ⟨_,rfl,_,rfl,t,a,n,ties,rr,rfl,W17.same sG,ok,ga,rlen,fun G2 s2=>⟨sG.trans s2,rfl⟩⟩⟩
  ·rintro zs G _ ⟨sG,rfl⟩ D hD
   rw[List.length_map,al4,List.take_length]
   have lr:=lst_rows HG TB OW pne ez
   refine⟨D,_,rfl,upd_same,fun e=>?_,fun m hm lm=>?_⟩
   ·have:=lr.mem
    rw[e]at this
    cases this
   ·have em:m=z3:=Lst.uniq ⟨hm,lm⟩ lr
    subst em
    refine⟨rfl,?_⟩
    rw[decide_eq_true rfl]
    exact q _ (k1.trans (k2.trans (k3.trans ((kept_s s311).trans (k12.trans (kept_s (s1215.trans (s16.trans (s17.trans (sG.trans (Same.new hD))))))))))) 
noncomputable def spLaw(K:PySem.W.Frag):Sp:=fun vs H Q _=>∃ (a:Addr) (ns:List Int),vs=[.ref a]/\SqL K H a (ns.map V.int)/\ns.length<=63/\∀ H',Q (.bl true) H'
structure Txt3(mg:Str->Option Value):Prop where
 reversed:mg "reversed" = none
noncomputable abbrev nLaw:List Str:=["_law_script","_law_k"]
theorem scLaw:FnScope nLaw ["_law_script"] (defScope sLaw):=⟨rfl,rfl,rfl,by decide +kernel,rfl,by decide +kernel,by decide +kernel⟩
theorem ok_law{f g1 g2:Addr}{fd d1 d2:FuncData}(F:Fun K "law" "law" sLaw f fd)(T:Txt mg)(GB:CalF P w K mg base 2 "_law_box" ["_law_script","_law_k"] (spBox K) g1 d1)(GR:CalF P w K mg base 6 "_law_right" ["_law_box_here"] spRi g2 d2):FnOk P w K mg base CX0 7 f fd ["_law_script"] (spLaw K):=by
 refine F.ok scLaw (fun vs H Q E h=>?_) (fun cdv A outer s H vs Q E hr h=>?_)
 ·obtain⟨a,ns,rfl,_⟩:=h
  rfl
 ·obtain⟨a,ns,rfl,hS,hlen,q⟩:=h
  have hr2:Room 2 _:=hr.mono (by decide)
  refine⟨_,(pss_cons (ps_for PassesOwn.never rfl (pi_range1 rfl T.range (@pa_call _ _ _ _ _ _ _ _ (pe_callB (call_max2 rfl) (by rfl) T.max boot_max (@pa_cst _ _ _ _ _ _ _ pe_int (@pa_call _ _ _ _ _ _ _ _ (pe_callB (call_min2 rfl) (by rfl) T.min boot_min (@pa_call _ _ _ _ _ _ _ _ (pe_callB call_len_seq (by rfl) T.len PySem.boot_len (@pa_nam _ _ _ _ _ _ (pv 0) pa_nil)) (@pa_cst _ _ _ _ _ _ _ pe_int pa_nil))) pa_nil))) pa_nil)) (pg_name (i:=1) scLaw.nd rfl (Or.inl rfl))
   (pss_one (ps_if (pt_not (pt_val (pe_call GR.ok hr rfl GR.mg GR.kp GR.bd .nil pass0 (@pa_call _ _ _ _ _ _ _ _ (pe_call GB.ok hr2 rfl GB.mg GB.kp GB.bd .nil pass0 (@pa_nam _ _ _ _ _ _ (pv 0) (@pa_nam _ _ _ _ _ _ (pv 1) pa_nil))) pa_nil)))) pss_never pss_nil)))
   (pss_one (ps_ret pe_bl))),?_⟩
  refine⟨_,rfl,a,_,rfl,.inl hS,_,_,rfl,_,_,rfl,_,rfl,?_,?_,?_⟩
  ·split <;> split <;> lia
  ·split <;> split <;> lia
  generalize (if(if(8:Int) <((ns.map V.int).length:Int)then(8:Int)else((ns.map V.int).length:Int)) > 3 then(if(8:Int) <((ns.map V.int).length:Int)then(8:Int)else((ns.map V.int).length:Int))else 3).toNat=turns
  refine for_range (lo:=0) (n:=turns) (fun i σ H'=>∃ v1,σ=[some (.ref a),v1]/\Same H H') ⟨_,rfl,Same.refl _⟩ ?_ ?_
  ·rintro i σ H0 hi ⟨v1,rfl,s0⟩
   refine⟨_,rfl,_,rfl,a,ns,0+i,by rw[Int.zero_add,Nat.zero_add];rfl,s0.seq hS,fun p H1 hp B1 k1=>?_⟩
   refine⟨p,rfl,B1,fun H2 k2=>?_⟩
   exact⟨_,rfl,iteF ⟨_,rfl,s0.trans (Kept.same hp (k1.trans k2))⟩⟩
  ·rintro σ H' ⟨v1,rfl,s0⟩
   exact q H'
end
open PySem L2 PyProof.Rows
theorem leS{k:Nat}{motive:List Value->Prop}(us:List Value)(hl:us.length=k+1)(h:∀ a t,t.length=k->motive (a :: t)):motive us:=by
 cases us with
 |nil=>cases hl
 |cons a t=>exact h a t (Nat.succ.inj hl)
theorem leZ{motive:List Value->Prop}(us:List Value)(hl:us.length=0)(h:motive []):motive us:=by
 cases us with
 |nil=>exact h
 |cons a t=>cases hl
@[elab_as_elim] theorem le1{motive:List Value->Prop}(us:List Value)(hl:us.length=1)(k:∀ a0,motive [a0]):motive us:=leS (motive:=fun u=>motive (u)) us hl fun a0 t0 h0=>leZ (motive:=fun u=>motive (a0 :: u)) t0 h0 (k a0)
@[elab_as_elim] theorem le2{motive:List Value->Prop}(us:List Value)(hl:us.length=2)(k:∀ a0 a1,motive [a0,a1]):motive us:=leS (motive:=fun u=>motive (u)) us hl fun a0 t0 h0=>leS (motive:=fun u=>motive (a0 :: u)) t0 h0 fun a1 t1 h1=>leZ (motive:=fun u=>motive (a0 :: a1 :: u)) t1 h1 (k a0 a1)
@[elab_as_elim] theorem le3{motive:List Value->Prop}(us:List Value)(hl:us.length=3)(k:∀ a0 a1 a2,motive [a0,a1,a2]):motive us:=leS (motive:=fun u=>motive (u)) us hl fun a0 t0 h0=>leS (motive:=fun u=>motive (a0 :: u)) t0 h0 fun a1 t1 h1=>leS (motive:=fun u=>motive (a0 :: a1 :: u)) t1 h1 fun a2 t2 h2=>leZ (motive:=fun u=>motive (a0 :: a1 :: a2 :: u)) t2 h2 (k a0 a1 a2)
@[elab_as_elim] theorem le4{motive:List Value->Prop}(us:List Value)(hl:us.length=4)(k:∀ a0 a1 a2 a3,motive [a0,a1,a2,a3]):motive us:=leS (motive:=fun u=>motive (u)) us hl fun a0 t0 h0=>leS (motive:=fun u=>motive (a0 :: u)) t0 h0 fun a1 t1 h1=>leS (motive:=fun u=>motive (a0 :: a1 :: u)) t1 h1 fun a2 t2 h2=>leS (motive:=fun u=>motive (a0 :: a1 :: a2 :: u)) t2 h2 fun a3 t3 h3=>leZ (motive:=fun u=>motive (a0 :: a1 :: a2 :: a3 :: u)) t3 h3 (k a0 a1 a2 a3)
theorem all_mk{l:PySem.W.OpenLaw}{w:World}{K:PySem.W.Frag}{h:Heap}{mg:Str->Option Value}{fa f1 f2 f3 f4 f5 f6 f7 f8 f9 f10 f11 f12 f13 f14 f15 f16 f17 f18 f19 f20 f21 f22 f23:Addr}(X:K.In h)(G:h.Ns mainGlobals mg)(hfa:mg "law" = some (.ref fa))
  {od1 an1 od2 an2 od3 an3 od4 an4 od5 an5 od6 an6 od7 an7 od8 an8 od9 an9 od10 an10 od11 an11 od12 an12 od13 an13 od14 an14 od15 an15 od16 an16 od17 an17 od18 an18 od19 an19 od20 an20 od21 an21 od22 an22 od23 an23:Option Addr}{sl1 sl2 sl3 sl4 sl5 sl6 sl7 sl8 sl9 sl10 sl11 sl12 sl13 sl14 sl15 sl16 sl17 sl18 sl19 sl20 sl21 sl22 sl23:Array (Option Value)}{oc1 kV1 dc1 pm1 cd1 ct1 oc2 kV2 dc2 pm2 cd2 ct2 oc3 kV3 dc3 pm3 cd3 ct3 oc4 kV4 dc4 pm4 cd4 ct4 oc5 kV5 dc5 pm5 cd5 ct5 oc6 kV6 dc6 pm6 cd6 ct6 oc7 kV7 dc7 pm7 cd7 ct7 oc8 kV8 dc8 pm8 cd8 ct8 oc9 kV9 dc9 pm9 cd9 ct9 oc10 kV10 dc10 pm10 cd10 ct10 oc11 kV11 dc11 pm11 cd11 ct11 oc12 kV12 dc12 pm12 cd12 ct12 oc13 kV13 dc13 pm13 cd13 ct13 oc14 kV14 dc14 pm14 cd14 ct14 oc15 kV15 dc15 pm15 cd15 ct15 oc16 kV16 dc16 pm16 cd16 ct16 oc17 kV17 dc17 pm17 cd17 ct17 oc18 kV18 dc18 pm18 cd18 ct18 oc19 kV19 dc19 pm19 cd19 ct19 oc20 kV20 dc20 pm20 cd20 ct20 oc21 kV21 dc21 pm21 cd21 ct21 oc22 kV22 dc22 pm22 cd22 ct22 oc23 kV23 dc23 pm23 cd23 ct23:Value}
  (a1:PySem.W.nsIn K mainGlobals "beside_each" = some (some (.ref f1))) (l1:K.lookup f1=some ⟨oc1,od1,.func (PySem.W.fnOf "beside_each" "beside_each" (defArgs sBesideEach) (defBody sBesideEach) (defScope sBesideEach) .none kV1 dc1 pm1 an1 cd1 ct1),sl1⟩) (c1:PySem.W.codeIn K cd1 "beside_each" = true) (k1:PySem.W.keepIn K (.ref f1)=true)
  (a2:PySem.W.nsIn K mainGlobals "least_on_tree" = some (some (.ref f2))) (l2:K.lookup f2=some ⟨oc2,od2,.func (PySem.W.fnOf "least_on_tree" "least_on_tree" (defArgs sLeastOnTree) (defBody sLeastOnTree) (defScope sLeastOnTree) .none kV2 dc2 pm2 an2 cd2 ct2),sl2⟩) (c2:PySem.W.codeIn K cd2 "least_on_tree" = true) (k2:PySem.W.keepIn K (.ref f2)=true)
  (a3:PySem.W.nsIn K mainGlobals "behind_each" = some (some (.ref f3))) (l3:K.lookup f3=some ⟨oc3,od3,.func (PySem.W.fnOf "behind_each" "behind_each" (defArgs sBehindEach) (defBody sBehindEach) (defScope sBehindEach) .none kV3 dc3 pm3 an3 cd3 ct3),sl3⟩) (c3:PySem.W.codeIn K cd3 "behind_each" = true) (k3:PySem.W.keepIn K (.ref f3)=true)
  (a4:PySem.W.nsIn K mainGlobals "weights_behind" = some (some (.ref f4))) (l4:K.lookup f4=some ⟨oc4,od4,.func (PySem.W.fnOf "weights_behind" "weights_behind" (defArgs sWeightsBehind) (defBody sWeightsBehind) (defScope sWeightsBehind) .none kV4 dc4 pm4 an4 cd4 ct4),sl4⟩) (c4:PySem.W.codeIn K cd4 "weights_behind" = true) (k4:PySem.W.keepIn K (.ref f4)=true)
  (a5:PySem.W.nsIn K mainGlobals "least_of" = some (some (.ref f5))) (l5:K.lookup f5=some ⟨oc5,od5,.func (PySem.W.fnOf "least_of" "least_of" (defArgs sLeastOf) (defBody sLeastOf) (defScope sLeastOf) .none kV5 dc5 pm5 an5 cd5 ct5),sl5⟩) (c5:PySem.W.codeIn K cd5 "least_of" = true) (k5:PySem.W.keepIn K (.ref f5)=true)
  (a6:PySem.W.nsIn K mainGlobals "is_open_to" = some (some (.ref f6))) (l6:K.lookup f6=some ⟨oc6,od6,.func (PySem.W.fnOf "is_open_to" "is_open_to" (defArgs sIsOpenTo) (defBody sIsOpenTo) (defScope sIsOpenTo) .none kV6 dc6 pm6 an6 cd6 ct6),sl6⟩) (c6:PySem.W.codeIn K cd6 "is_open_to" = true) (k6:PySem.W.keepIn K (.ref f6)=true)
  (a7:PySem.W.nsIn K mainGlobals "_law_cell_at" = some (some (.ref f7))) (l7:K.lookup f7=some ⟨oc7,od7,.func (PySem.W.fnOf "_law_cell_at" "_law_cell_at" (defArgs sCell) (defBody sCell) (defScope sCell) .none kV7 dc7 pm7 an7 cd7 ct7),sl7⟩) (c7:PySem.W.codeIn K cd7 "_law_cell_at" = true) (k7:PySem.W.keepIn K (.ref f7)=true)
  (a8:PySem.W.nsIn K mainGlobals "_law_box" = some (some (.ref f8))) (l8:K.lookup f8=some ⟨oc8,od8,.func (PySem.W.fnOf "_law_box" "_law_box" (defArgs sBox) (defBody sBox) (defScope sBox) .none kV8 dc8 pm8 an8 cd8 ct8),sl8⟩) (c8:PySem.W.codeIn K cd8 "_law_box" = true) (k8:PySem.W.keepIn K (.ref f8)=true)
  (a9:PySem.W.nsIn K mainGlobals "_law_take" = some (some (.ref f9))) (l9:K.lookup f9=some ⟨oc9,od9,.func (PySem.W.fnOf "_law_take" "_law_take" (defArgs sTake) (defBody sTake) (defScope sTake) .none kV9 dc9 pm9 an9 cd9 ct9),sl9⟩) (c9:PySem.W.codeIn K cd9 "_law_take" = true) (k9:PySem.W.keepIn K (.ref f9)=true)
  (a10:PySem.W.nsIn K mainGlobals "_law_many" = some (some (.ref f10))) (l10:K.lookup f10=some ⟨oc10,od10,.func (PySem.W.fnOf "_law_many" "_law_many" (defArgs sMany) (defBody sMany) (defScope sMany) .none kV10 dc10 pm10 an10 cd10 ct10),sl10⟩) (c10:PySem.W.codeIn K cd10 "_law_many" = true) (k10:PySem.W.keepIn K (.ref f10)=true)
  (a11:PySem.W.nsIn K mainGlobals "_law_weight" = some (some (.ref f11))) (l11:K.lookup f11=some ⟨oc11,od11,.func (PySem.W.fnOf "_law_weight" "_law_weight" (defArgs sWeight) (defBody sWeight) (defScope sWeight) .none kV11 dc11 pm11 an11 cd11 ct11),sl11⟩) (c11:PySem.W.codeIn K cd11 "_law_weight" = true) (k11:PySem.W.keepIn K (.ref f11)=true)
  (a12:PySem.W.nsIn K mainGlobals "_law_tree" = some (some (.ref f12))) (l12:K.lookup f12=some ⟨oc12,od12,.func (PySem.W.fnOf "_law_tree" "_law_tree" (defArgs sTree) (defBody sTree) (defScope sTree) .none kV12 dc12 pm12 an12 cd12 ct12),sl12⟩) (c12:PySem.W.codeIn K cd12 "_law_tree" = true) (k12:PySem.W.keepIn K (.ref f12)=true)
  (a13:PySem.W.nsIn K mainGlobals "_law_posts" = some (some (.ref f13))) (l13:K.lookup f13=some ⟨oc13,od13,.func (PySem.W.fnOf "_law_posts" "_law_posts" (defArgs sPosts) (defBody sPosts) (defScope sPosts) .none kV13 dc13 pm13 an13 cd13 ct13),sl13⟩) (c13:PySem.W.codeIn K cd13 "_law_posts" = true) (k13:PySem.W.keepIn K (.ref f13)=true)
  (a14:PySem.W.nsIn K mainGlobals "_law_same" = some (some (.ref f14))) (l14:K.lookup f14=some ⟨oc14,od14,.func (PySem.W.fnOf "_law_same" "_law_same" (defArgs sSame) (defBody sSame) (defScope sSame) .none kV14 dc14 pm14 an14 cd14 ct14),sl14⟩) (c14:PySem.W.codeIn K cd14 "_law_same" = true) (k14:PySem.W.keepIn K (.ref f14)=true)
  (a15:PySem.W.nsIn K mainGlobals "_law_hung" = some (some (.ref f15))) (l15:K.lookup f15=some ⟨oc15,od15,.func (PySem.W.fnOf "_law_hung" "_law_hung" (defArgs sHung) (defBody sHung) (defScope sHung) .none kV15 dc15 pm15 an15 cd15 ct15),sl15⟩) (c15:PySem.W.codeIn K cd15 "_law_hung" = true) (k15:PySem.W.keepIn K (.ref f15)=true)
  (a16:PySem.W.nsIn K mainGlobals "_law_table" = some (some (.ref f16))) (l16:K.lookup f16=some ⟨oc16,od16,.func (PySem.W.fnOf "_law_table" "_law_table" (defArgs sTable) (defBody sTable) (defScope sTable) .none kV16 dc16 pm16 an16 cd16 ct16),sl16⟩) (c16:PySem.W.codeIn K cd16 "_law_table" = true) (k16:PySem.W.keepIn K (.ref f16)=true)
  (a17:PySem.W.nsIn K mainGlobals "_law_are_owners" = some (some (.ref f17))) (l17:K.lookup f17=some ⟨oc17,od17,.func (PySem.W.fnOf "_law_are_owners" "_law_are_owners" (defArgs sAreOwners) (defBody sAreOwners) (defScope sAreOwners) .none kV17 dc17 pm17 an17 cd17 ct17),sl17⟩) (c17:PySem.W.codeIn K cd17 "_law_are_owners" = true) (k17:PySem.W.keepIn K (.ref f17)=true)
  (a18:PySem.W.nsIn K mainGlobals "_law_cost" = some (some (.ref f18))) (l18:K.lookup f18=some ⟨oc18,od18,.func (PySem.W.fnOf "_law_cost" "_law_cost" (defArgs sCost) (defBody sCost) (defScope sCost) .none kV18 dc18 pm18 an18 cd18 ct18),sl18⟩) (c18:PySem.W.codeIn K cd18 "_law_cost" = true) (k18:PySem.W.keepIn K (.ref f18)=true)
  (a19:PySem.W.nsIn K mainGlobals "_law_rows" = some (some (.ref f19))) (l19:K.lookup f19=some ⟨oc19,od19,.func (PySem.W.fnOf "_law_rows" "_law_rows" (defArgs sRows) (defBody sRows) (defScope sRows) .none kV19 dc19 pm19 an19 cd19 ct19),sl19⟩) (c19:PySem.W.codeIn K cd19 "_law_rows" = true) (k19:PySem.W.keepIn K (.ref f19)=true)
  (a20:PySem.W.nsIn K mainGlobals "_law_is_told" = some (some (.ref f20))) (l20:K.lookup f20=some ⟨oc20,od20,.func (PySem.W.fnOf "_law_is_told" "_law_is_told" (defArgs sIsTold) (defBody sIsTold) (defScope sIsTold) .none kV20 dc20 pm20 an20 cd20 ct20),sl20⟩) (c20:PySem.W.codeIn K cd20 "_law_is_told" = true) (k20:PySem.W.keepIn K (.ref f20)=true)
  (a21:PySem.W.nsIn K mainGlobals "_law_count" = some (some (.ref f21))) (l21:K.lookup f21=some ⟨oc21,od21,.func (PySem.W.fnOf "_law_count" "_law_count" (defArgs sCount) (defBody sCount) (defScope sCount) .none kV21 dc21 pm21 an21 cd21 ct21),sl21⟩) (c21:PySem.W.codeIn K cd21 "_law_count" = true) (k21:PySem.W.keepIn K (.ref f21)=true)
  (a22:PySem.W.nsIn K mainGlobals "_law_right" = some (some (.ref f22))) (l22:K.lookup f22=some ⟨oc22,od22,.func (PySem.W.fnOf "_law_right" "_law_right" (defArgs sRight) (defBody sRight) (defScope sRight) .none kV22 dc22 pm22 an22 cd22 ct22),sl22⟩) (c22:PySem.W.codeIn K cd22 "_law_right" = true) (k22:PySem.W.keepIn K (.ref f22)=true)
  (a23:PySem.W.nsIn K mainGlobals "law" = some (some (.ref f23))) (l23:K.lookup f23=some ⟨oc23,od23,.func (PySem.W.fnOf "law" "law" (defArgs sLaw) (defBody sLaw) (defScope sLaw) .none kV23 dc23 pm23 an23 cd23 ct23),sl23⟩) (c23:PySem.W.codeIn K cd23 "law" = true) (k23:PySem.W.keepIn K (.ref f23)=true)
  (z1:PySem.W.nsIn K mainGlobals "abs" = some none) (z2:PySem.W.nsIn K mainGlobals "int" = some none) (z3:PySem.W.nsIn K mainGlobals "len" = some none) (z4:PySem.W.nsIn K mainGlobals "range" = some none) (z5:PySem.W.nsIn K mainGlobals "min" = some none) (z6:PySem.W.nsIn K mainGlobals "max" = some none) (z7:PySem.W.nsIn K mainGlobals "tuple" = some none) (z8:PySem.W.nsIn K mainGlobals "sorted" = some none) (z9:PySem.W.nsIn K mainGlobals "isinstance" = some none) (z10:PySem.W.nsIn K mainGlobals "list" = some none) (z11:PySem.W.nsIn K mainGlobals "str" = some none) (z12:PySem.W.nsIn K mainGlobals "bool" = some none) (z13:PySem.W.nsIn K mainGlobals "sum" = some none) (z14:PySem.W.nsIn K mainGlobals "all" = some none) (z15:PySem.W.nsIn K mainGlobals "zip" = some none) (z16:PySem.W.nsIn K mainGlobals "enumerate" = some none) (z17:PySem.W.nsIn K mainGlobals "dict" = some none) (z18:PySem.W.nsIn K mainGlobals "reversed" = some none) :
  ∃ fd:FuncData,(∀ (s:Shared) (v:Value),BindsTo s fd ⟨[v],[]⟩ [("_law_script",v)])/\∀ base:Heap,K.In base->base.Ns mainGlobals mg->FnOk l.prog w K mg base CX0 7 fa fd ["_law_script"] (spLaw K):=by
 have e:=hfa.symm.trans (PySem.W.mg_of X G a23)
 cases e
 have T:Txt mg:=⟨PySem.W.mg_none_of X G z1,PySem.W.mg_none_of X G z2,PySem.W.mg_none_of X G z3,PySem.W.mg_none_of X G z4,PySem.W.mg_none_of X G z5,PySem.W.mg_none_of X G z6,PySem.W.mg_none_of X G z7,PySem.W.mg_none_of X G z8,PySem.W.mg_none_of X G z9,PySem.W.mg_none_of X G z10,PySem.W.mg_none_of X G z11,PySem.W.mg_none_of X G z12,PySem.W.mg_none_of X G z13⟩
 have T2:Txt2 mg:=⟨PySem.W.mg_none_of X G z14,PySem.W.mg_none_of X G z15,PySem.W.mg_none_of X G z16,PySem.W.mg_none_of X G z17⟩
 have T3:Txt3 mg:=⟨PySem.W.mg_none_of X G z18⟩
 have F1:=fun_mk (st:=sBesideEach) l1 c1 k1
 have F2:=fun_mk (st:=sLeastOnTree) l2 c2 k2
 have F3:=fun_mk (st:=sBehindEach) l3 c3 k3
 have F4:=fun_mk (st:=sWeightsBehind) l4 c4 k4
 have F5:=fun_mk (st:=sLeastOf) l5 c5 k5
 have F6:=fun_mk (st:=sIsOpenTo) l6 c6 k6
 have F7:=fun_mk (st:=sCell) l7 c7 k7
 have F8:=fun_mk (st:=sBox) l8 c8 k8
 have F9:=fun_mk (st:=sTake) l9 c9 k9
 have F10:=fun_mk (st:=sMany) l10 c10 k10
 have F11:=fun_mk (st:=sWeight) l11 c11 k11
 have F12:=fun_mk (st:=sTree) l12 c12 k12
 have F13:=fun_mk (st:=sPosts) l13 c13 k13
 have F14:=fun_mk (st:=sSame) l14 c14 k14
 have F15:=fun_mk (st:=sHung) l15 c15 k15
 have F16:=fun_mk (st:=sTable) l16 c16 k16
 have F17:=fun_mk (st:=sAreOwners) l17 c17 k17
 have F18:=fun_mk (st:=sCost) l18 c18 k18
 have F19:=fun_mk (st:=sRows) l19 c19 k19
 have F20:=fun_mk (st:=sIsTold) l20 c20 k20
 have F21:=fun_mk (st:=sCount) l21 c21 k21
 have F22:=fun_mk (st:=sRight) l22 c22 k22
 have F23:=fun_mk (st:=sLaw) l23 c23 k23
 have b1:=F1.binds (ps:=["web"]) fun _ _ _ _ _ _ us hl=>le1 us hl fun _=>rfl
 have b2:=F2.binds (ps:=["web","posts"]) fun _ _ _ _ _ _ us hl=>le2 us hl fun _ _=>rfl
 have b3:=F3.binds (ps:=["web"]) fun _ _ _ _ _ _ us hl=>le1 us hl fun _=>rfl
 have b4:=F4.binds (ps:=["posts","place","nexts","table"]) fun _ _ _ _ _ _ us hl=>le4 us hl fun _ _ _ _=>rfl
 have b5:=F5.binds (ps:=["posts","row","owner","heavy"]) fun _ _ _ _ _ _ us hl=>le4 us hl fun _ _ _ _=>rfl
 have b6:=F6.binds (ps:=["posts","place","post"]) fun _ _ _ _ _ _ us hl=>le3 us hl fun _ _ _=>rfl
 have b7:=F7.binds (ps:=["_law_script","_law_k"]) fun _ _ _ _ _ _ us hl=>le2 us hl fun _ _=>rfl
 have b8:=F8.binds (ps:=["_law_script","_law_k"]) fun _ _ _ _ _ _ us hl=>le2 us hl fun _ _=>rfl
 have b9:=F9.binds (ps:=["_law_box_here","_law_many_here"]) fun _ _ _ _ _ _ us hl=>le2 us hl fun _ _=>rfl
 have b10:=F10.binds (ps:=["_law_box_here","_law_least","_law_few","_law_most"]) fun _ _ _ _ _ _ us hl=>le4 us hl fun _ _ _ _=>rfl
 have b11:=F11.binds (ps:=["_law_box_here","_law_heavy"]) fun _ _ _ _ _ _ us hl=>le2 us hl fun _ _=>rfl
 have b12:=F12.binds (ps:=["_law_box_here","_law_many_here"]) fun _ _ _ _ _ _ us hl=>le2 us hl fun _ _=>rfl
 have b13:=F13.binds (ps:=["_law_box_here","_law_many_here","_law_most"]) fun _ _ _ _ _ _ us hl=>le3 us hl fun _ _ _=>rfl
 have b14:=F14.binds (ps:=["_law_found","_law_due"]) fun _ _ _ _ _ _ us hl=>le2 us hl fun _ _=>rfl
 have b15:=F15.binds (ps:=["_law_web"]) fun _ _ _ _ _ _ us hl=>le1 us hl fun _=>rfl
 have b16:=F16.binds (ps:=["_law_web","_law_posts_here"]) fun _ _ _ _ _ _ us hl=>le2 us hl fun _ _=>rfl
 have b17:=F17.binds (ps:=["_law_web","_law_posts_here","_law_owners"]) fun _ _ _ _ _ _ us hl=>le3 us hl fun _ _ _=>rfl
 have b18:=F18.binds (ps:=["_law_web","_law_owners"]) fun _ _ _ _ _ _ us hl=>le2 us hl fun _ _=>rfl
 have b19:=F19.binds (ps:=["_law_web","_law_posts_here"]) fun _ _ _ _ _ _ us hl=>le2 us hl fun _ _=>rfl
 have b20:=F20.binds (ps:=["_law_web","_law_posts_here","_law_told"]) fun _ _ _ _ _ _ us hl=>le3 us hl fun _ _ _=>rfl
 have b21:=F21.binds (ps:=["_law_web","_law_posts_here"]) fun _ _ _ _ _ _ us hl=>le2 us hl fun _ _=>rfl
 have b22:=F22.binds (ps:=["_law_box_here"]) fun _ _ _ _ _ _ us hl=>le1 us hl fun _=>rfl
 have m1:=PySem.W.mg_of X G a1
 have m2:=PySem.W.mg_of X G a2
 have m3:=PySem.W.mg_of X G a3
 have m4:=PySem.W.mg_of X G a4
 have m5:=PySem.W.mg_of X G a5
 have m6:=PySem.W.mg_of X G a6
 have m7:=PySem.W.mg_of X G a7
 have m8:=PySem.W.mg_of X G a8
 have m9:=PySem.W.mg_of X G a9
 have m10:=PySem.W.mg_of X G a10
 have m11:=PySem.W.mg_of X G a11
 have m12:=PySem.W.mg_of X G a12
 have m13:=PySem.W.mg_of X G a13
 have m14:=PySem.W.mg_of X G a14
 have m15:=PySem.W.mg_of X G a15
 have m16:=PySem.W.mg_of X G a16
 have m17:=PySem.W.mg_of X G a17
 have m18:=PySem.W.mg_of X G a18
 have m19:=PySem.W.mg_of X G a19
 have m20:=PySem.W.mg_of X G a20
 have m21:=PySem.W.mg_of X G a21
 have m22:=PySem.W.mg_of X G a22
 have m23:=PySem.W.mg_of X G a23
 refine⟨PySem.W.fnOf "law" "law" (defArgs sLaw) (defBody sLaw) (defScope sLaw) .none kV23 dc23 pm23 an23 cd23 ct23,fun s v=>.of_eq rfl,fun base _ _=>?_⟩
 have C__law_box:CalF l.prog w K mg base 2 "_law_box" ["_law_script","_law_k"] (spBox K) f8 _:=⟨ok_box F8 T F7 m7 b7,m8,k8,b8⟩
 have TK:TakeF l.prog w K mg base f9 _:=⟨ok_take F9,m9,k9,b9⟩
 have C__law_many:CalF l.prog w K mg base 2 "_law_many" ["_law_box_here","_law_least","_law_few","_law_most"] spMany f10 _:=⟨ok_many F10 TK,m10,k10,b10⟩
 have TW:WeightF l.prog w K mg base f11 _:=⟨ok_weight F11 TK,m11,k11,b11⟩
 have C__law_tree:CalF l.prog w K mg base 3 "_law_tree" ["_law_box_here","_law_many_here"] spTree f12 _:=⟨ok_tree F12 T TK TW,m12,k12,b12⟩
 have C__law_posts:CalF l.prog w K mg base 2 "_law_posts" ["_law_box_here","_law_many_here","_law_most"] spPo f13 _:=⟨ok_po F13 T TK,m13,k13,b13⟩
 have C_beside_each:CalF l.prog w K mg base 1 "beside_each" ["web"] spBes f1 _:=⟨ok_bes F1 T,m1,k1,b1⟩
 have C_behind_each:CalF l.prog w K mg base 2 "behind_each" ["web"] spBe f3 _:=⟨ok_be F3 T C_beside_each,m3,k3,b3⟩
 have C_least_of:CalF l.prog w K mg base 1 "least_of" ["posts","row","owner","heavy"] spLo f5 _:=⟨ok_lo F5 T T2,m5,k5,b5⟩
 have C_is_open_to:CalF l.prog w K mg base 1 "is_open_to" ["posts","place","post"] spIo f6 _:=⟨ok_io F6,m6,k6,b6⟩
 have C_weights_behind:CalF l.prog w K mg base 2 "weights_behind" ["posts","place","nexts","table"] spWb f4 _:=⟨ok_wb F4 T C_least_of C_is_open_to,m4,k4,b4⟩
 have C_least_on_tree:CalF l.prog w K mg base 3 "least_on_tree" ["web","posts"] spLt f2 _:=⟨ok_lt F2 T T3.reversed C_behind_each C_weights_behind C_least_of,m2,k2,b2⟩
 have C__law_are_owners:CalF l.prog w K mg base 1 "_law_are_owners" ["_law_web","_law_posts_here","_law_owners"] spAo f17 _:=⟨ok_ao F17 T T2,m17,k17,b17⟩
 have C__law_hung:CalF l.prog w K mg base 1 "_law_hung" ["_law_web"] spHu f15 _:=⟨ok_hu F15 T,m15,k15,b15⟩
 have C__law_table:CalF l.prog w K mg base 2 "_law_table" ["_law_web","_law_posts_here"] spTa f16 _:=⟨ok_ta F16 T T2 T3.reversed C__law_hung,m16,k16,b16⟩
 have C__law_cost:CalF l.prog w K mg base 1 "_law_cost" ["_law_web","_law_owners"] spCo f18 _:=⟨ok_co F18 T,m18,k18,b18⟩
 have C__law_same:CalF l.prog w K mg base 4 "_law_same" ["_law_found","_law_due"] (spSame 3) f14 _:=⟨ok_same F14 T T2 m14 b14 3,m14,k14,b14⟩
 have C__law_is_told:CalF l.prog w K mg base 5 "_law_is_told" ["_law_web","_law_posts_here","_law_told"] spIt f20 _:=⟨ok_it F20 T C__law_are_owners C__law_table C__law_cost C__law_same,m20,k20,b20⟩
 have C__law_count:CalF l.prog w K mg base 1 "_law_count" ["_law_web","_law_posts_here"] spCn f21 _:=⟨ok_cn F21 T,m21,k21,b21⟩
 have C__law_rows:CalF l.prog w K mg base 1 "_law_rows" ["_law_web","_law_posts_here"] spRo f19 _:=⟨ok_ro F19 T,m19,k19,b19⟩
 have C__law_right:CalF l.prog w K mg base 6 "_law_right" ["_law_box_here"] spRi f22 _:=⟨ok_ri F22 T ⟨C__law_many,C__law_tree,C__law_posts,C_least_on_tree,C__law_is_told,C__law_count,C__law_cost,C__law_rows⟩,m22,k22,b22⟩
 exact ok_law F23 T C__law_box C__law_right
theorem walk{l:PySem.W.OpenLaw}{q:Program}{loose:List Str}{XP:(Str->Option Value)->Heap->Prop}{YP:World->Heap->Prop}{d:DefRec}{K:Params->PySem.W.Frag}(hn:l.most=some 63)(hdf:d.params.defaults=[])(hY:∀ (w:World) (h:Heap),YP w h->(K w.params).In h)
  (F:∀ (w:World) (mg:Str->Option Value) (fa:Addr) (h:Heap),(K w.params).In h->h.Ns mainGlobals mg->mg d.name=some (.ref fa)->∃ fd:FuncData,(∀ (s:Shared) (u:Value),BindsTo s fd ⟨[u],[]⟩ [("_law_script",u)])/\∀ base:Heap,(K w.params).In base->base.Ns mainGlobals mg->FnOk l.prog w (K w.params) mg base CX0 7 fa fd ["_law_script"] (spLaw (K w.params))) :
  PySem.W.WalkO q loose XP YP l.row.toRowW d [] (fun f vs=>PySem.call f vs) :=
 L2.walk_of (n:=63) (k:=7) (x:="_law_script") (CX:=fun _=>CX0) (sp:=fun w=>spLaw (K w.params)) hn (by decide) hdf ⟨rfl,by decide,by decide,rfl⟩ hY F (fun _ _ a ns hl _ hS=>⟨a,ns,rfl,hS,hl,fun _=>rfl⟩) fun _ _ _ _ _ z=>z
end K40
open PySem PySem.W PyProof.Rows
set_option maxRecDepth 100000 in
set_option maxHeartbeats 0 in
theorem PySem.Challenge.cw_partedweb_k40_least_on_trees_holds : PySem.Challenge.rw_partedweb_k40_least_on_trees.Holds := by
  w_on; o_law; k_head; (case hw => w_witness2)
  k_fill
  refine K40.walk (l := PySem.Challenge.rw_partedweb_k40_least_on_trees) rfl rfl (fun w h Y => PySem.W.kIn_of Y) ?F
  case F =>
    intro w mg fa h KX G hmg
    refine' K40.all_mk KX G hmg ?a1 ?l1 ?c1 ?k1 ?a2 ?l2 ?c2 ?k2 ?a3 ?l3 ?c3 ?k3 ?a4 ?l4 ?c4 ?k4 ?a5 ?l5 ?c5 ?k5 ?a6 ?l6 ?c6 ?k6 ?a7 ?l7 ?c7 ?k7 ?a8 ?l8 ?c8 ?k8 ?a9 ?l9 ?c9 ?k9 ?a10 ?l10 ?c10 ?k10 ?a11 ?l11 ?c11 ?k11 ?a12 ?l12 ?c12 ?k12 ?a13 ?l13 ?c13 ?k13 ?a14 ?l14 ?c14 ?k14 ?a15 ?l15 ?c15 ?k15 ?a16 ?l16 ?c16 ?k16 ?a17 ?l17 ?c17 ?k17 ?a18 ?l18 ?c18 ?k18 ?a19 ?l19 ?c19 ?k19 ?a20 ?l20 ?c20 ?k20 ?a21 ?l21 ?c21 ?k21 ?a22 ?l22 ?c22 ?k22 ?a23 ?l23 ?c23 ?k23 ?z1 ?z2 ?z3 ?z4 ?z5 ?z6 ?z7 ?z8 ?z9 ?z10 ?z11 ?z12 ?z13 ?z14 ?z15 ?z16 ?z17 ?z18
    (case a1 => k_is); (case l1 => k_is); (case c1 => k_is); (case k1 => k_is); (case a2 => k_is); (case l2 => k_is)
    (case c2 => k_is); (case k2 => k_is); (case a3 => k_is); (case l3 => k_is); (case c3 => k_is); (case k3 => k_is)
    (case a4 => k_is); (case l4 => k_is); (case c4 => k_is); (case k4 => k_is); (case a5 => k_is); (case l5 => k_is)
    (case c5 => k_is); (case k5 => k_is); (case a6 => k_is); (case l6 => k_is); (case c6 => k_is); (case k6 => k_is)
    (case a7 => k_is); (case l7 => k_is); (case c7 => k_is); (case k7 => k_is); (case a8 => k_is); (case l8 => k_is)
    (case c8 => k_is); (case k8 => k_is); (case a9 => k_is); (case l9 => k_is); (case c9 => k_is); (case k9 => k_is)
    (case a10 => k_is); (case l10 => k_is); (case c10 => k_is); (case k10 => k_is); (case a11 => k_is); (case l11 => k_is)
    (case c11 => k_is); (case k11 => k_is); (case a12 => k_is); (case l12 => k_is); (case c12 => k_is); (case k12 => k_is)
    (case a13 => k_is); (case l13 => k_is); (case c13 => k_is); (case k13 => k_is); (case a14 => k_is); (case l14 => k_is)
    (case c14 => k_is); (case k14 => k_is); (case a15 => k_is); (case l15 => k_is); (case c15 => k_is); (case k15 => k_is)
    (case a16 => k_is); (case l16 => k_is); (case c16 => k_is); (case k16 => k_is); (case a17 => k_is); (case l17 => k_is)
    (case c17 => k_is); (case k17 => k_is); (case a18 => k_is); (case l18 => k_is); (case c18 => k_is); (case k18 => k_is)
    (case a19 => k_is); (case l19 => k_is); (case c19 => k_is); (case k19 => k_is); (case a20 => k_is); (case l20 => k_is)
    (case c20 => k_is); (case k20 => k_is); (case a21 => k_is); (case l21 => k_is); (case c21 => k_is); (case k21 => k_is)
    (case a22 => k_is); (case l22 => k_is); (case c22 => k_is); (case k22 => k_is); (case a23 => k_is); (case l23 => k_is)
    (case c23 => k_is); (case k23 => k_is); (case z1 => k_is); (case z2 => k_is); (case z3 => k_is); (case z4 => k_is)
    (case z5 => k_is); (case z6 => k_is); (case z7 => k_is); (case z8 => k_is); (case z9 => k_is); (case z10 => k_is)
    (case z11 => k_is); (case z12 => k_is); (case z13 => k_is); (case z14 => k_is); (case z15 => k_is); (case z16 => k_is)
    (case z17 => k_is); (case z18 => k_is)
#print axioms PySem.Challenge.cw_partedweb_k40_least_on_trees_holds
