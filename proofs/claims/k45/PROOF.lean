import PyProof.Rows.All
import Wide.All
import OpenK.AllK
import Wide.FinOn
import Lean
import PyProof.EqAt
import PyProof.EqKinds
import PyProof.TupleCall
import PySem.Challenge.RW_partedweb_k45_narrow_by_any_order
set_option Elab.async false
set_option linter.all false
set_option maxRecDepth 100000
namespace L2
open PySem PySem.Spec PyProof.Rows
noncomputable abbrev Key:=Sum Int Str
noncomputable def keyIs:Key->Value->Bool
 | .inl k,v=>Value.isInt k v
 | .inr x,v=>Value.isStrOf x v
noncomputable def keyH(w:World):Key->Int
 | .inl k=>hashInt k
 | .inr x=>hashStr w x
theorem keyIs_shape:∀ {k:Key}{v:Value},keyIs k v=true->(∃ i t,k=Sum.inl i/\v=Value.int i t)\/(∃ x t,k=Sum.inr x/\v=Value.str x t)
 | .inl i,v,h=>by
  obtain⟨t,e⟩:=Value.isInt_shape (k:=i) (v:=v) h
  exact .inl ⟨i,t,rfl,e⟩
 | .inr x,v,h=>by
  obtain⟨t,e⟩:=Value.isStrOf_shape (x:=x) (v:=v) h
  exact .inr ⟨x,t,rfl,e⟩
theorem keyIs_int(i:Int)(t:Tok):keyIs (.inl i) (.int i t)=true:=by simp[keyIs,Value.isInt]
theorem keyIs_str(x:Str)(t:Tok):keyIs (.inr x) (.str x t)=true:=by simp[keyIs,Value.isStrOf]
theorem key_ll(a b:Int):decide ((Sum.inl a:Key)=Sum.inl b)=(a == b):=by
 by_cases e:a=b
 ·subst e;simp
 ·have h:¬(Sum.inl a:Key)=Sum.inl b:=fun q=>e (Sum.inl.inj q)
  rw[decide_eq_false h]
  exact(beq_eq_false_iff_ne.mpr e).symm
theorem key_rr(a b:Str):decide ((Sum.inr a:Key)=Sum.inr b)=decide (a=b):=by
 by_cases e:a=b
 ·subst e;simp
 ·have h:¬(Sum.inr a:Key)=Sum.inr b:=fun q=>e (Sum.inr.inj q)
  rw[decide_eq_false h,decide_eq_false e]
theorem key_lr(a:Int)(b:Str):decide ((Sum.inl a:Key)=Sum.inr b)=false:=decide_eq_false (fun q=>nomatch q)
theorem key_rl(a:Str)(b:Int):decide ((Sum.inr a:Key)=Sum.inl b)=false:=decide_eq_false (fun q=>nomatch q)
noncomputable def mixKind(prog:Program)(w:World):PySem.KeyKind prog w Key where
 is:=keyIs
 hash:=keyH w
 inj:=fun v a b ha hb=>by
  rcases keyIs_shape ha with⟨i,t,rfl,rfl⟩ |⟨x,t,rfl,rfl⟩
  ·rcases keyIs_shape hb with⟨j,u,rfl,e⟩ |⟨y,u,rfl,e⟩
   ·injection e with e1 _;rw[e1]
   ·exact nomatch e
  ·rcases keyIs_shape hb with⟨j,u,rfl,e⟩ |⟨y,u,rfl,e⟩
   ·exact nomatch e
   ·injection e with e1 _;rw[e1]
 byValue:=fun k v h=>by
  rcases keyIs_shape h with⟨i,t,rfl,rfl⟩ |⟨x,t,rfl,rfl⟩ <;> rfl
 pyHash:=fun hv h=>by
  rcases keyIs_shape hv with⟨i,t,rfl,rfl⟩ |⟨x,t,rfl,rfl⟩
  ·exact wpAny_pyHash_int h
  ·exact wpAny_pyHash_str h
 eqBool:=fun hu hv h=>by
  rcases keyIs_shape hu with⟨i,t,rfl,rfl⟩ |⟨x,t,rfl,rfl⟩
  ·rcases keyIs_shape hv with⟨j,u,rfl,rfl⟩ |⟨y,u,rfl,rfl⟩
   ·rw[key_ll]at h;exact wpAny_eqBool_int h
   ·rw[key_lr]at h;exact SeqAt.EqAt.int_str i t y u _ _ _ _ h
  ·rcases keyIs_shape hv with⟨j,u,rfl,rfl⟩ |⟨y,u,rfl,rfl⟩
   ·rw[key_rl]at h;exact SeqAt.EqAt.str_int x t j u _ _ _ _ h
   ·rw[key_rr]at h;exact wpAny_eqBool_str h
 «strs»:=fun k x t v h=>by
  rcases keyIs_shape h with⟨i,u,rfl,e⟩ |⟨y,u,rfl,e⟩
  ·exact nomatch e
  ·injection e with e1 _
   subst e1
   cases v <;> rfl
theorem mixKind_int(prog:Program)(w:World)(i:Int)(t:Tok):(mixKind prog w).is (.inl i) (.int i t)=true:=keyIs_int i t
theorem mixKind_str(prog:Program)(w:World)(x:Str)(t:Tok):(mixKind prog w).is (.inr x) (.str x t)=true:=keyIs_str x t
open PySem PySem.Spec PyProof.Rows
inductive V where
 |non | bl (b:Bool) | int (i:Int) | str (x:Str) | byt (b:Array UInt8) | flt (b:UInt64) | ref (a:Addr) | ty (n:String)
 deriving DecidableEq
noncomputable def RelV:V->Value->Prop
 | .non,u=>u=Value.none
 | .bl b,u=>u=Value.bool b
 | .int i,u=>∃ t,u=Value.int i t
 | .str x,u=>∃ t,u=Value.str x t
 | .byt b,u=>∃ t,u=Value.bytes b t
 | .flt b,u=>∃ t,u=Value.float b t
 | .ref a,u=>u=Value.ref a
 | .ty n,u=>u=Value.type n
noncomputable abbrev Vals:List V->List Value->Prop:=Paired RelV
theorem Vals.length{xs:List V}{us:List Value}(r:Vals xs us):xs.length=us.length:=Paired.length r
theorem Vals.get:∀ {xs:List V}{us:List Value}{i:Nat}{x:V},Vals xs us->xs[i]?=some x->∃ u,us[i]?=some u/\RelV x u
 | _,_,_,_,.nil,e=>by simp at e
 | _,_,0,_,.cons r _,e=>by simp at e;subst e;exact⟨_,rfl,r⟩
 | _,_,i+1,x,.cons _ t,e=>by
  obtain⟨u,h1,h2⟩:=Vals.get (i:=i) (x:=x) t (by simpa using e)
  exact⟨u,by simpa using h1,h2⟩
theorem Vals.set{x:V}{u:Value}(r:RelV x u):∀ {xs:List V}{us:List Value} (i:Nat),Vals xs us->Vals (xs.set i x) (us.set i u)
 | _,_,_,.nil=>.nil
 | _,_,0,.cons _ t=>.cons r t
 | _,_,i+1,.cons q t=>.cons q (Vals.set r i t)
theorem Vals.append:∀ {xs ys:List V}{us ws:List Value},Vals xs us->Vals ys ws->Vals (xs++ys) (us++ws)
 | _,_,_,_,.nil,s=>s
 | _,_,_,_,.cons r t,s=>.cons r (Vals.append t s)
theorem Vals.take:∀ {xs:List V}{us:List Value} (n:Nat),Vals xs us->Vals (xs.take n) (us.take n)
 | _,_,0,_=>.nil
 | _,_,_+1,.nil=>.nil
 | _,_,n+1,.cons r t=>.cons r (Vals.take n t)
theorem Vals.drop:∀ {xs:List V}{us:List Value} (n:Nat),Vals xs us->Vals (xs.drop n) (us.drop n)
 | _,_,0,r=>r
 | _,_,_+1,.nil=>.nil
 | _,_,n+1,.cons _ t=>Vals.drop n t
noncomputable def RelO:Option V->Option Value->Prop
 |some v,some u=>RelV v u
 |none,none=>True
 | _,_=>False
noncomputable def KV{κ:Type}:List (κ×V)->List (κ×Value)->Prop:=Paired fun(p:κ×V) (q:κ×Value)=>p.1=q.1/\RelV p.2 q.2
noncomputable def kV:Key->V
 | .inl i=>.int i
 | .inr x=>.str x
inductive HO where
 /-- a list -/
 |lst (xs:List V)
 /-- a tuple (never changes) -/
 |tup (xs:List V)
 /-- a dict whose keys are ints and texts;one whose keys are tuples of ints and texts (the empty one is both) -/
 |dK (kvs:List (Key×V)) | dT (kvs:List (List Key×V))
 /-- a set of ints: its members,its size -/
 |set (S:Int->Bool) (n:Nat)
 /-- an instance of the class at C,its dict at dx,its attributes -/
 |ins (C dx:Addr) (fs:List (Str×V))
 /-- the dict of the instance at x -/
 |own (x:Addr)
 /-- the dict of an exception -/
 |xd (fs:List (Str×V))
 /-- a bound method,f of x -/
 |met (f x:Addr)
 /-- a range object lo,lo+1,.. below hi -/
 |rng (lo hi:Int)
 /-- a thing that is known to the object (the script;a dict while a loop walks it): read,never written while it is so -/
 |frz (o:Obj) (u:HO)
 /-- a code object's table -/
 |tbl (ps:Array Value)
 /-- any other thing,by what is true of its one object (a def of one's own: SetO a S n:=HO.ext fun h=>..) -/
 |ext (φ:Heap->Prop)
noncomputable abbrev Hp:=Addr->Option HO
noncomputable def upd(H:Hp)(a:Addr)(o:HO):Hp:=fun b=>if b=a then some o else H b
theorem upd_same{H:Hp}{a:Addr}{o:HO}:upd H a o a=some o:=by unfold upd;rw[if_pos rfl]
theorem upd_ne{H:Hp}{a b:Addr}{o:HO}(h:b≠a):upd H a o b=H b:=by unfold upd;rw[if_neg h]
theorem upd_upd{H:Hp}{a:Addr}{o u:HO}:upd (upd H a o) a u=upd H a u:=by
 funext b;unfold upd;split <;> rfl
theorem ne_of{H:Hp}{a b:Addr}{o u:HO}(h:H a=some o)(h':H b=some u)(d:o≠u):a≠b:=by
 intro e;subst e;rw[h]at h';exact d (Option.some.inj h')
theorem ne_of_none{H:Hp}{a b:Addr}{o:HO}(h:H a=some o)(h':H b=none):a≠b:=by
 intro e;subst e;rw[h]at h';cases h'
section
variable(P:Program)(w:World)
noncomputable def ObjOk(H:Hp)(h:Heap)(a:Addr):HO->Prop
 | .lst xs=>xs.length<=sizeLine/\∃ (its:List Value) (n:Nat),Vals xs its/\h.get? a=some { cls:=.type "list",data:=.seq its.toArray n }
 | .tup xs=>xs.length<=sizeLine/\∃ its:List Value,Vals xs its/\IsTup h a its.toArray
 | .dK kvs=>kvs.length<=sizeLine/\(a == sysModules)=false/\∃ vs,KV kvs vs/\h.DictOf (mixKind P w) a vs
 | .dT kvs=>kvs.length<=sizeLine/\(a == sysModules)=false/\∃ xs:List (List Key×Addr×Value),
   Paired (fun(p:List Key×V) (q:List Key×Addr×Value)=>p.1=q.1/\H q.2.1=some (.tup (p.1.map kV))/\RelV p.2 q.2.2) kvs xs /\
   ∃ o es ep,h.get? a=some o/\o.ExactDict/\o.data = .dict es ep/\es.toList=xs.map (entryOfKey (tupleKind (mixKind P w)))/\(xs.map (·.1)).Nodup
 | .set S n=>h.SetOf (intKind P w) a S n
 | .ins C dx fs=>H dx=some (.own a)/\fs.length<=1000/\dx≠a/\h.get? a=some (PySem.W.instObj C dx) /\
   ∃ mA,h.Ns1 dx mA/\(∀ f,RelO (fs.lookup f) (mA f))/\PySem.Within mA (fs.map (·.1))
 | .own _=>∃ o,h.get? a=some o
 | .xd fs=>∃ mA,h.Ns1 a mA/\∀ f,RelO (fs.lookup f) (mA f)
 | .rng lo hi=>∃ t u v,h.get? a=some { cls:=.type "range",data:=.fields #[.int lo t,.int hi u,.int 1 v] }
 | .frz o u=>h.get? a=some o/\ObjOk H h a u
 | .tbl ps=>h.get? a=some { cls:=.none,data:=.fields ps }
 | .met f x=>h.get? a=some (PySem.W.methodObj (.ref f) (.ref x))
 | .ext φ=>φ h/\(∃ o,h.get? a=some o)/\∀ h1 h2:Heap,φ h1->(∀ o,h1.get? a=some o->h2.get? a=some o)->φ h2
noncomputable def HOk(H:Hp)(h:Heap):Prop:=∀ a o,H a=some o->ObjOk P w H h a o
end
section
variable{P:Program}{w:World}{H H':Hp}{h h':Heap}{a:Addr}{o:HO}
theorem ObjOk.lt(x:ObjOk P w H h a o):a<h.objs.size:=by
 cases o with
 |lst xs=>obtain⟨_,_,_,_,e⟩:=x;exact Heap.lt_size e
 |tup xs=>obtain⟨_,_,_,p⟩:=x;exact p.lt
 |dK kvs=>obtain⟨_,_,_,_,o,_,_,e,_⟩:=x;exact Heap.lt_size e
 |dT kvs=>obtain⟨_,_,_,_,o,_,_,e,_⟩:=x;exact Heap.lt_size e
 |set S n=>obtain⟨o,_,_,_,e,_⟩:=x;exact Heap.lt_size e
 |ins C dx fs=>obtain⟨_,_,_,e,_⟩:=x;exact Heap.lt_size e
 |own y=>obtain⟨_,e⟩:=x;exact Heap.lt_size e
 |xd fs=>obtain⟨_,⟨_,_,_,e,_⟩,_⟩:=x;exact Heap.lt_size e
 |rng lo hi=>obtain⟨_,_,_,e⟩:=x;exact Heap.lt_size e
 |frz ob u=>obtain⟨e,_⟩:=x;exact Heap.lt_size e
 |tbl ps=>exact Heap.lt_size (show h.get? a=some _ from x)
 |met f y=>exact Heap.lt_size (show h.get? a=some _ from x)
 |ext φ=>obtain⟨_,⟨_,e⟩,_⟩:=x;exact Heap.lt_size e
theorem Paired.mapP{α β:Type}{F G:α->β->Prop}:∀ {l₁:List α}{l₂:List β},Paired F l₁ l₂->(∀ a b,F a b->G a b)->Paired G l₁ l₂
 | _,_,.nil,_=>.nil
 | _,_,.cons r t,f=>.cons (f _ _ r) (Paired.mapP t f)
theorem ObjOk.stay(x:ObjOk P w H h a o)(k:∀ b u,(b=a\/H b=some (.own a))->h.get? b=some u->h'.get? b=some u)
  (ho:∀ b,H b=some (.own a)->H' b=some (.own a)) (ht:∀ b xs,H b=some (.tup xs)->H' b=some (.tup xs)):ObjOk P w H' h' a o:=by
 induction o with
 |lst xs=>obtain⟨z,its,n,r,e⟩:=x;exact⟨z,its,n,r,k _ _ (.inl rfl) e⟩
 |tup xs=>obtain⟨z,its,r,ob,e,c⟩:=x;exact⟨z,its,r,ob,k _ _ (.inl rfl) e,c⟩
 |dK kvs=>obtain⟨z,y,vs,r,ob,es,ep,e,c⟩:=x;exact⟨z,y,vs,r,ob,es,ep,k _ _ (.inl rfl) e,c⟩
 |dT kvs =>
  obtain⟨z,y,xs,r,ob,es,ep,e,c⟩:=x
  exact⟨z,y,xs,Paired.mapP r fun p q z=>⟨z.1,ht _ _ z.2.1,z.2.2⟩,ob,es,ep,k _ _ (.inl rfl) e,c⟩
 |set S n=>obtain⟨ob,es,ep,t,e,c⟩:=x;exact⟨ob,es,ep,t,k _ _ (.inl rfl) e,c⟩
 |ins C dx fs =>
  obtain⟨d,z,ne,e,mA,⟨od,es,ep,e2,c⟩,r⟩:=x
  exact⟨ho _ d,z,ne,k _ _ (.inl rfl) e,mA,⟨od,es,ep,k _ _ (.inr d) e2,c⟩,r⟩
 |own y=>obtain⟨ob,e⟩:=x;exact⟨ob,k _ _ (.inl rfl) e⟩
 |xd fs=>obtain⟨mA,⟨od,es,ep,e,c⟩,r⟩:=x;exact⟨mA,⟨od,es,ep,k _ _ (.inl rfl) e,c⟩,r⟩
 |rng lo hi=>obtain⟨t,u,v,e⟩:=x;exact⟨t,u,v,k _ _ (.inl rfl) e⟩
 |frz ob u ih=>obtain⟨e,q⟩:=x;exact⟨k _ _ (.inl rfl) e,ih q⟩
 |tbl ps =>
  have e:h.get? a=some { cls:=.none,data:=.fields ps }:=x
  show h'.get? a=some { cls:=.none,data:=.fields ps }
  exact k a _ (.inl rfl) e
 |met f y =>
  have e:h.get? a=some (PySem.W.methodObj (.ref f) (.ref y)):=x
  show h'.get? a=some (PySem.W.methodObj (.ref f) (.ref y))
  exact k a _ (.inl rfl) e
 |ext φ=>obtain⟨p,⟨o,e⟩,st⟩:=x;exact⟨st _ _ p fun o q=>k _ _ (.inl rfl) q,⟨o,k _ _ (.inl rfl) e⟩,st⟩
theorem HOk.lt(x:HOk P w H h)(e:H a=some o):a<h.objs.size:=(x a o e).lt
theorem HOk.fresh(x:HOk P w H h)(e:h.objs.size<=a):H a=none:=by
 cases q:H a with
 |none=>rfl
 |some u=>exact absurd (Nat.lt_of_lt_of_le (x.lt q) e) (Nat.lt_irrefl _)
theorem HOk.kept(x:HOk P w H h)(k:∀ b u,h.get? b=some u->h'.get? b=some u):HOk P w H h':=fun a o e =>
 (x a o e).stay (fun b u _ q=>k b u q) (fun _ q=>q) fun _ _ q=>q
theorem HOk.laid(x:HOk P w H h)(k:∀ b u,h.get? b=some u->h'.get? b=some u)(hp:h.objs.size<=a)(new:ObjOk P w (upd H a o) h' a o):HOk P w (upd H a o) h':=fun b u e=>by
 have hn:=x.fresh hp
 by_cases hb:b=a
 ·subst hb;rw[upd_same]at e;cases e;exact new
 ·rw[upd_ne hb]at e
  exact(x b u e).stay (fun c v _ q=>k c v q) (fun c q=>by rw[upd_ne (ne_of_none q hn)];exact q) fun c xs q=>by rw[upd_ne (ne_of_none q hn)];exact q
end
noncomputable def Rd(H:Hp)(a:Addr)(u:HO):Prop:=H a=some u\/∃ o,H a=some (.frz o u)
theorem Rd.ok{P:Program}{w:World}{H:Hp}{h:Heap}{a:Addr}{u:HO}(r:Rd H a u)(x:HOk P w H h):ObjOk P w H h a u:=by
 rcases r with r |⟨o,r⟩
 ·exact x a u r
 ·obtain⟨_,q⟩:=x a _ r
  exact q
noncomputable def Mut:Option HO->Prop
 |some (.lst _)=>True
 |some (.dK _)=>True
 |some (.dT _)=>True
 |some (.set _ _)=>True
 |some (.ins _ _ _)=>True
 |some (.ext _)=>True
 | _=>False
section
variable{P:Program}{w:World}{H:Hp}{h h':Heap}{x e:Addr}{o':HO}
theorem HOk.write(ok:HOk P w H h)(mu:Mut (H x))(he:e=x\/H e=some (.own x))(k:∀ b u,b≠e->h.get? b=some u->h'.get? b=some u)(heo:∃ u,h'.get? e=some u)
  (new:ObjOk P w (upd H x o') h' x o'):HOk P w (upd H x o') h':=fun b u q=>by
 have nown:∀ c y,H c=some (.own y)->c≠x:=fun c y r z=>by subst z;rw[r]at mu;exact mu
 have ntup:∀ c xs,H c=some (.tup xs)->c≠x:=fun c xs r z=>by subst z;rw[r]at mu;exact mu
 by_cases hb:b=x
 ·subst hb;rw[upd_same]at q;cases q;exact new
 ·rw[upd_ne hb]at q
  by_cases hbe:b=e
  ·have q':H b=some (.own x):=by
    rcases he with z | z
    ·exact absurd (hbe.trans z) hb
    ·rw[hbe];exact z
   rw[q]at q';cases q'
   obtain⟨v,hv⟩:=heo
   exact⟨v,by rw[hbe];exact hv⟩
  ·refine(ok b u q).stay (fun c v hc r=>k c v ?_ r) (fun c r=>by rw[upd_ne (nown c b r)];exact r) fun c xs r=>by rw[upd_ne (ntup c xs r)];exact r
   rcases hc with rfl | hc
   ·exact hbe
   ·rintro rfl
    rcases he with z | z
    ·exact nown c b hc z
    ·rw[hc]at z;cases z;exact hb rfl
end
structure Un(fs ex:List Addr)(H H':Hp)(h h':Heap):Prop where
 keep:∀ b o,h.get? b=some o->H b=none->b∉fs->b∉ex->h'.get? b=some o
 slot:∀ b o,h.get? b=some o->H b=none->b∈fs->b∉ex->∃ sl,h'.get? b=some { o with slots:=sl }
 free:∀ b o,h.get? b=some o->H b=none->b∉ex->H' b=none
 there:∀ b o,h.get? b=some o->b∉ex->∃ o',h'.get? b=some o'
 tups:∀ b xs,H b=some (.tup xs)->H' b=some (.tup xs)
 frzs:∀ b o u,H b=some (.frz o u)->H' b=some (.frz o u)
 tbls:∀ b ps,H b=some (.tbl ps)->∃ more,H' b=some (.tbl (ps++more))
section
variable{fs fs' ex ex':List Addr}{H H1 H2:Hp}{h h1 h2 h':Heap}{a x e:Addr}{o:HO}
theorem Un.any(u:Un fs ex H H1 h h1){b:Addr}{ob:Obj}(q:h.get? b=some ob)(n:H b=none)(hx:b∉ex):∃ sl,h1.get? b=some { ob with slots:=sl }:=by
 by_cases hb:b∈fs
 ·exact u.slot b ob q n hb hx
 ·exact⟨ob.slots,u.keep b ob q n hb hx⟩
theorem Un.kept(k:∀ b u,h.get? b=some u->h'.get? b=some u):Un fs ex H H h h' :=
 ⟨fun b ob q _ _ _=>k b ob q,fun b ob q _ _ _=>⟨ob.slots,k b ob q⟩,fun _ _ _ n _=>n,fun b ob q _=>⟨ob,k b ob q⟩,fun _ _ q=>q,fun _ _ _ q=>q,fun _ ps q=>⟨#[],by rw[q];simp⟩⟩
theorem Un.refl:Un fs ex H H h h:=Un.kept fun _ _ q=>q
theorem Un.laid(k:∀ b u,h.get? b=some u->h'.get? b=some u)(hp:h.objs.size<=a)(hn:H a=none):Un fs ex H (upd H a o) h h' where
 keep:=fun b u q _ _ _=>k b u q
 slot:=fun b u q _ _ _=>⟨u.slots,k b u q⟩
 free:=fun b u q n _=>by rw[upd_ne (Nat.ne_of_lt (Nat.lt_of_lt_of_le (Heap.lt_size q) hp))];exact n
 there:=fun b u q _=>⟨u,k b u q⟩
 tups:=fun b xs q=>by rw[upd_ne (ne_of_none q hn)];exact q
 frzs:=fun b u xs q=>by rw[upd_ne (ne_of_none q hn)];exact q
 tbls:=fun b ps q=>⟨#[],by rw[upd_ne (ne_of_none q hn),q];simp⟩
theorem Un.write(mu:Mut (H x))(he:e=x\/H e=some (.own x))(k:∀ b u,b≠e->h.get? b=some u->h'.get? b=some u)(heo:∃ u,h'.get? e=some u):Un fs ex H (upd H x o) h h':=by
 have hx:∀ b,H b=none->b≠x:=fun b n z=>by subst z;rw[n]at mu;exact mu
 have hb:∀ b,H b=none->b≠e:=fun b n z=>by
  subst z
  rcases he with r | r
  ·exact hx b n r
  ·rw[n]at r;cases r
 have hm:∀ b u,H b=some u->¬ Mut (some u)->b≠x:=fun b u q nm z=>by subst z;rw[q]at mu;exact nm mu
 refine⟨fun b u q n _ _=>k b u (hb b n) q,fun b u q n _ _=>⟨u.slots,k b u (hb b n) q⟩,fun b u q n _=>by rw[upd_ne (hx b n)];exact n,fun b u q _=>?_,
  fun b xs q=>by rw[upd_ne (hm b _ q fun z=>z)];exact q,fun b u xs q=>by rw[upd_ne (hm b _ q fun z=>z)];exact q,fun b ps q=>⟨#[],by rw[upd_ne (hm b _ q fun z=>z),q];simp⟩⟩
 by_cases hbe:b=e
 ·subst hbe;exact heo
 ·exact⟨u,k b u hbe q⟩
end
noncomputable def trk(h:Heap)(H:Hp):List Addr:=(List.range h.objs.size).filter fun a=>(H a).isSome
noncomputable def hidT(h:Heap)(H:Hp):Heap:=PySem.W.hideAll h (trk h H)
theorem hidT_size(h:Heap)(H:Hp):(hidT h H).objs.size=h.objs.size:=PySem.W.hideAll_size _ _
theorem hidT_get{h:Heap}{H:Hp}{b:Addr}{o:Obj}(e:h.get? b=some o)(n:H b=none):(hidT h H).get? b=some o :=
 PySem.W.hideAll_get _ e fun hm=>by
  have q:(H b).isSome=true:=(List.mem_filter.mp hm).2
  rw[n]at q;simp at q
theorem of_hidT{h:Heap}{H:Hp}{b:Addr}{o:Obj}(e:(hidT h H).get? b=some o):h.get? b=some o/\H b=none:=by
 have e':h.get? b=some o:=PySem.W.of_hideAll (trk h H) e
 refine⟨e',?_⟩
 cases q:H b with
 |none=>rfl
 |some x =>
  have hm:b∈trk h H:=List.mem_filter.mpr ⟨List.mem_range.mpr (Heap.lt_size e'),by simp[q]⟩
  have z:(hidT h H).get? b=none:=PySem.W.hideAll_none (trk h H) hm
  rw[z]at e;cases e
open PySem PySem.Spec PyProof.Rows
structure Mod(K:PySem.W.Frag)(mg:Str->Option Value)(base:Heap):Prop where
 kin:K.In base
 glob:base.Ns mainGlobals mg
 blt:∃ mb,base.Ns builtinsNs mb/\∀ x:Str,x≠"__name__"->mb x=bootBuiltins x
 nolimit:base.NoLimit
structure Cx where
 prog:Program
 w:World
 K:PySem.W.Frag
 mg:Str->Option Value
 base:Heap
 A:Around
 N:List Str
 s₀:Shared
 H₀:Hp
 env:Env
 outer:List Env
 stack:List Env
 ex:List Addr
 fn:Str->Bool
 calm:Bool
 pn:List (Addr×Obj)
 xe:Value->Shared->Prop
noncomputable def frs(l:List Env):List Addr:=l.filterMap (·.frame)
noncomputable abbrev Cx.fs(X:Cx):List Addr:=frs X.outer
noncomputable def Vis(sc:Scope)(x:Str):Prop:=sc.names.lookup x=some .local\/sc.names.lookup x=some .cell\/sc.names.lookup x=some .free
noncomputable def Loc(sc:Scope)(x:Str):Prop:=sc.names.lookup x=some .local\/sc.names.lookup x=some .cell
noncomputable def Look(env:Env)(h:Heap)(m:Str->Option Value)(x:Str)(u:Value):Prop :=
 (env.kindOf x=some .local/\m x=some u)\/((env.kindOf x=some .cell\/env.kindOf x=some .free)/\∃ c,env.cells.lookup x=some c/\h.IsCell c (some u))
structure Cx.Ok(X:Cx):Prop where
 mod:Mod X.K X.mg X.base
 kind:X.env.scope.kind = .function
 glob:X.env.globals=mainGlobals
 blt:X.env.builtins=builtinsNs
 above:X.s₀.heap.objs.size<=X.env.locals
 inj:∀ x y c,X.env.cells.lookup x=some c->X.env.cells.lookup y=some c->x=y
 has:∀ x,(X.env.kindOf x=some .cell\/X.env.kindOf x=some .free)->∃ c,X.env.cells.lookup x=some c
 cab:∀ x c,X.fn x=true->X.env.cells.lookup x=some c->X.s₀.heap.objs.size<=c
 hd:X.calm=true->X.A.handled=none
 frames:X.A.frames=some X.stack
 stk:X.stack=X.outer\/(X.stack=X.env :: X.outer/\X.env.frame=some X.env.locals)
 exf:∀ b∈X.ex,b≠X.env.locals/\∀ x c,X.env.cells.lookup x=some c->c≠b
 bs:∀ b o,X.base.get? b=some o->X.s₀.heap.get? b=some o/\X.H₀ b=none
 bsz:X.base.objs.size<=X.s₀.heap.objs.size
 noex:∀ b o,X.base.get? b=some o->b∉X.ex
 exfs:∀ b∈X.ex,b∉X.fs
 funs:X.s₀.heap.FunFrames X.base X.outer
 frf:∀ b∈X.fs,X.H₀ b=none
structure Inv(X:Cx)(pins:List (Addr×Obj))(σ:List (Option V))(H:Hp)(s:Shared):Prop where
 ok:X.Ok
 os:s.os=X.s₀.os
 bare:AllBare s.gens
 base:Un X.fs X.ex X.H₀ H X.s₀.heap s.heap
 loc:∃ m,s.heap.Ns X.env.locals m/\∀ (i:Nat) (x:Str) (v:V),X.N[i]?=some x->σ[i]?=some (some v)->Vis X.env.scope x->∃ u,RelV v u/\Look X.env s.heap m x u
 cell:∀ x c,X.env.cells.lookup x=some c->∃ v,s.heap.IsCell c v
 free:H X.env.locals=none
 freeC:∀ x c,X.env.cells.lookup x=some c->H c=none
 pin:∀ p∈X.pn++pins,s.heap.get? p.1=some p.2/\H p.1=none/\p.1≠X.env.locals/\p.1∉X.fs/\∀ v,p.2.data≠.cell v
 hok:HOk X.prog X.w H s.heap
 len:σ.length=X.N.length
section
variable{X:Cx}{pins:List (Addr×Obj)}{σ:List (Option V)}{H H':Hp}{s:Shared}{h':Heap}
theorem Cx.Ok.nofr(ok:X.Ok){b:Addr}{o:Obj}(e:X.base.get? b=some o):b∉X.fs:=fun hb=>by
 have:=(ok.funs.mem hb).1
 rw[e]at this;cases this
theorem Inv.bs(I:Inv X pins σ H s):∀ b o,X.base.get? b=some o->s.heap.get? b=some o/\H b=none:=fun b o e =>
 ⟨I.base.keep b o (I.ok.bs b o e).1 (I.ok.bs b o e).2 (I.ok.nofr e) (I.ok.noex b o e),I.base.free b o (I.ok.bs b o e).1 (I.ok.bs b o e).2 (I.ok.noex b o e)⟩
theorem Inv.bk(I:Inv X pins σ H s):∀ b o,X.base.get? b=some o->s.heap.get? b=some o:=fun b o e=>(I.bs b o e).1
theorem Inv.mod(I:Inv X pins σ H s):Mod X.K X.mg X.base:=I.ok.mod
theorem Inv.kIn(I:Inv X pins σ H s):X.K.In s.heap:=I.ok.mod.kin.keeps I.bk
theorem Inv.lt(I:Inv X pins σ H s):X.env.locals<s.heap.objs.size:=let ⟨_,hn,_⟩:=I.loc;hn.lt
theorem Inv.sz(I:Inv X pins σ H s):X.s₀.heap.objs.size<=s.heap.objs.size:=Nat.le_trans I.ok.above (Nat.le_of_lt I.lt)
theorem Inv.nofs(I:Inv X pins σ H s){a:Addr}(h:s.heap.objs.size<=a):a∉X.fs:=fun hb=>by
 obtain⟨_,o,ho,_⟩:=I.ok.funs.mem hb
 exact absurd (Nat.lt_of_lt_of_le (Heap.lt_size ho) (Nat.le_trans I.sz h)) (Nat.lt_irrefl _)
theorem Inv.cne(I:Inv X pins σ H s):∀ x c,X.env.cells.lookup x=some c->c≠X.env.locals:=fun x c e z=>by
 obtain⟨v,o,ho,hd⟩:=I.cell x c e
 obtain⟨m,⟨o',es,ep,ho',hd',_⟩,_⟩:=I.loc
 rw[z,ho']at ho;cases ho;rw[hd']at hd;cases hd
theorem Inv.funs(I:Inv X pins σ H s):s.heap.FunFrames X.base X.outer:=by
 have all:∀ (l:List Env),(∀ b∈frs l,b∈X.fs)->X.s₀.heap.FunFrames X.base l->s.heap.FunFrames X.base l:=by
  intro l
  induction l with
  |nil=>intro _ _;trivial
  |cons env r ih =>
   intro hs hl
   obtain⟨hk,⟨L,o,hf,hn,ho,hd⟩,hr⟩:=hl
   have hL:L∈X.fs:=hs L (by unfold frs;rw[List.filterMap_cons,hf];exact List.mem_cons_self)
   obtain⟨sl,e⟩:=I.base.slot L o ho (I.ok.frf L hL) hL fun z=>I.ok.exfs L z hL
   exact⟨hk,⟨L,_,hf,hn,e,hd⟩,ih (fun b hb=>hs b (by unfold frs;rw[List.filterMap_cons,hf];exact List.mem_cons_of_mem _ hb)) hr⟩
 exact all X.outer (fun _ hb=>hb) I.ok.funs
theorem Inv.stack(I:Inv X pins σ H s):s.heap.FunFrames X.base X.stack:=by
 rcases I.ok.stk with e |⟨e,hf⟩
 ·rw[e];exact I.funs
 ·rw[e]
  obtain⟨m,hn,_⟩:=I.loc
  refine .cons (by rw[I.ok.kind];decide) hf hn ?_ I.funs
  exact Heap.get?_none_of_le (Nat.le_trans I.ok.bsz I.ok.above)
theorem Inv.stkSub(I:Inv X pins σ H s):∀ b∈frs X.stack,b∈X.env.locals :: X.fs:=fun b hb=>by
 rcases I.ok.stk with e |⟨e,hf⟩
 ·rw[e]at hb;exact List.mem_cons_of_mem _ hb
 ·rw[e]at hb
  unfold frs at hb
  rw[List.filterMap_cons,hf]at hb
  exact hb
theorem Inv.stkFree(I:Inv X pins σ H s):∀ b∈frs X.stack,H b=none:=fun b hb=>by
 rcases List.mem_cons.mp (I.stkSub b hb)with e | hb
 ·rw[e];exact I.free
 ·obtain⟨_,o,ho,_⟩:=I.ok.funs.mem hb
  exact I.base.free b o ho (I.ok.frf b hb) fun z=>I.ok.exfs b z hb
theorem Inv.step{g':Array GenState}{t':Nat}{d':Drawn}{ch:List Addr}(I:Inv X pins σ H s)
  (hch:∀ b∈ch,(b∈X.ex\/X.s₀.heap.objs.size<=b)/\b≠X.env.locals/\(∀ x c,X.env.cells.lookup x=some c->c≠b)/\∀ p∈X.pn++pins,p.1≠b)
  (keep:∀ b o,b≠X.env.locals->b∉X.fs->b∉ch->s.heap.get? b=some o->H b=none->h'.get? b=some o)
  (slot:∀ b o,b≠X.env.locals->b∈X.fs->b∉ch->s.heap.get? b=some o->H b=none->∃ sl,h'.get? b=some { o with slots:=sl }) (free:∀ b o,b∉ch->s.heap.get? b=some o->H b=none->H' b=none)
  (there:∀ b o,b∉ch->s.heap.get? b=some o->∃ o',h'.get? b=some o')
  (tups:∀ b xs,H b=some (.tup xs)->H' b=some (.tup xs)) (frzs:∀ b o u,H b=some (.frz o u)->H' b=some (.frz o u)) (tbls:∀ b ps,H b=some (.tbl ps)->∃ more,H' b=some (.tbl (ps++more)))
  (ns:∀ m,s.heap.Ns X.env.locals m->h'.Ns X.env.locals m) (hok:HOk X.prog X.w H' h') (hg:AllBare g') :
  Inv X pins σ H' { s with heap:=h',gens:=g',drawn:=d',toks:=t' }:=by
 have neL:∀ b o,X.s₀.heap.get? b=some o->b≠X.env.locals:=fun b o e=>Nat.ne_of_lt (Nat.lt_of_lt_of_le (Heap.lt_size e) I.ok.above)
 have neC:∀ b o,X.s₀.heap.get? b=some o->b∉X.ex->b∉ch:=fun b o e hx hb=>by
  rcases(hch b hb).1 with z | z
  ·exact hx z
  ·exact absurd (Nat.lt_of_lt_of_le (Heap.lt_size e) z) (Nat.lt_irrefl _)
 have cellK:∀ x c,X.env.cells.lookup x=some c->∀ v,s.heap.IsCell c v->h'.IsCell c v:=fun x c e v ⟨o,ho,hd⟩=>by
  have nch:c∉ch:=fun z=>(hch c z).2.2.1 x c e rfl
  by_cases hc:c∈X.fs
  ·obtain⟨sl,q⟩:=slot c o (I.cne x c e) hc nch ho (I.freeC x c e)
   exact⟨_,q,hd⟩
  ·exact⟨o,keep c o (I.cne x c e) hc nch ho (I.freeC x c e),hd⟩
 refine⟨I.ok,I.os,hg,⟨fun b o e n hb hx=>?_,fun b o e n hb hx=>?_,fun b o e n hx=>?_,fun b o e hx=>?_,fun b xs e=>tups b xs (I.base.tups b xs e),fun b o xs e=>frzs b o xs (I.base.frzs b o xs e),fun b ps e=>?_⟩,?_,fun x c e=>?_,?_,fun x c e=>?_,fun p hp=>?_,hok,I.len⟩
 ·exact keep b o (neL b o e) hb (neC b o e hx) (I.base.keep b o e n hb hx) (I.base.free b o e n hx)
 ·obtain⟨sl,e1⟩:=I.base.slot b o e n hb hx
  obtain⟨sl',e2⟩:=slot b _ (neL b o e) hb (neC b o e hx) e1 (I.base.free b o e n hx)
  exact⟨sl',e2⟩
 ·obtain⟨o',e1⟩:=I.base.there b o e hx
  exact free b o' (neC b o e hx) e1 (I.base.free b o e n hx)
 ·obtain⟨o',e1⟩:=I.base.there b o e hx
  exact there b o' (neC b o e hx) e1
 ·obtain⟨m1,e1⟩:=I.base.tbls b ps e
  obtain⟨m2,e2⟩:=tbls b _ e1
  exact⟨m1++m2,by rw[e2,Array.append_assoc]⟩
 ·obtain⟨m,hn,hl⟩:=I.loc
  refine⟨m,ns m hn,fun i x v e1 e2 e3=>?_⟩
  obtain⟨u,r,l⟩:=hl i x v e1 e2 e3
  refine⟨u,r,?_⟩
  rcases l with l |⟨k,c,e,z⟩
  ·exact .inl l
  ·exact .inr ⟨k,c,e,cellK x c e _ z⟩
 ·obtain⟨v,z⟩:=I.cell x c e
  exact⟨v,cellK x c e v z⟩
 ·obtain⟨m,⟨o,_,_,ho,_⟩,_⟩:=I.loc
  exact free _ o (fun z=>(hch _ z).2.1 rfl) ho I.free
 ·obtain⟨v,o,ho,hd⟩:=I.cell x c e
  exact free c o (fun z=>(hch c z).2.2.1 x c e rfl) ho (I.freeC x c e)
 ·obtain⟨e,n,ne,nf,d⟩:=I.pin p hp
  have nch:p.1∉ch:=fun z=>(hch p.1 z).2.2.2 p hp rfl
  exact⟨keep p.1 p.2 ne nf nch e n,free p.1 p.2 nch e n,ne,nf,d⟩
theorem Inv.un{t':Nat}(I:Inv X pins σ H s)(u:Un X.fs [] H H' s.heap h')(hok:HOk X.prog X.w H' h'):Inv X pins σ H' { s with heap:=h',toks:=t' }:=by
 obtain⟨m,⟨o,es,ep,ho,r⟩,_⟩:=id I.loc
 obtain⟨sl,hL⟩:=u.any ho I.free (by simp)
 exact I.step (g':=s.gens) (d':=s.drawn) (ch:=[]) (fun _ z=>nomatch z) (fun b o _ hb _ e n=>u.keep b o e n hb (by simp)) (fun b o _ hb _ e n=>u.slot b o e n hb (by simp)) (fun b o _ e n=>u.free b o e n (by simp)) (fun b o _ e=>u.there b o e (by simp)) u.tups u.frzs u.tbls (fun m' hm=>by
  obtain⟨o',es',ep',ho',r'⟩:=hm
  rw[ho]at ho';cases ho'
  exact⟨_,es',ep',hL,r'⟩) hok I.bare
theorem Inv.call{g':Array GenState}{t':Nat}{d':Drawn}{ch:List Addr}(I:Inv X pins σ H s)(u:Un (frs X.stack) ch H H' s.heap h')(hok:HOk X.prog X.w H' h')(hg:AllBare g')
  (hch:∀ b∈ch,(b∈X.ex\/X.s₀.heap.objs.size<=b)/\b≠X.env.locals/\(∀ x c,X.env.cells.lookup x=some c->c≠b)/\∀ p∈X.pn++pins,p.1≠b) :
  Inv X pins σ H' { s with heap:=h',gens:=g',drawn:=d',toks:=t' }:=by
 obtain⟨m,⟨o,es,ep,ho,r⟩,_⟩:=id I.loc
 obtain⟨sl,hL⟩:=u.any ho I.free fun z=>(hch _ z).2.1 rfl
 exact I.step (ch:=ch) hch (fun b o hL hb hc e n=>u.keep b o e n (fun z=>(List.mem_cons.mp (I.stkSub b z)).elim hL hb) hc) (fun b o _ _ hc e n=>u.any e n hc) (fun b o hc e n=>u.free b o e n hc) (fun b o hc e=>u.there b o e hc) u.tups u.frzs u.tbls (fun m' hm=>by
  obtain⟨o',es',ep',ho',r'⟩:=hm
  rw[ho]at ho';cases ho'
  exact⟨_,es',ep',hL,r'⟩) hok hg
theorem Inv.turned{t':Nat}{it:Addr}(I:Inv X pins σ H s)(k:∀ b o,b≠it->s.heap.get? b=some o->h'.get? b=some o)(hn:H it=none)(hL:it≠X.env.locals)
  (h1:it∈X.ex\/X.s₀.heap.objs.size<=it) (h2:∀ x c,X.env.cells.lookup x=some c->c≠it) (h3:∀ p∈X.pn++pins,p.1≠it):Inv X pins σ H { s with heap:=h',toks:=t' }:=by
 have nit:∀ b u,H b=some u->b≠it:=fun b u e z=>by rw[z,hn]at e;cases e
 refine I.step (g':=s.gens) (d':=s.drawn) (ch:=[it]) (fun b hb=>?_) (fun b o _ _ hc e _=>k b o (fun z=>hc (by simp[z])) e) (fun b o _ _ hc e _=>⟨o.slots,k b o (fun z=>hc (by simp[z])) e⟩) (fun _ _ _ _ n=>n)
  (fun b o hc e=>⟨o,k b o (fun z=>hc (by simp[z])) e⟩) (fun _ _ e=>e) (fun _ _ _ e=>e) (fun b ps e=>⟨#[],by rw[e];simp⟩) (fun m hm=>?_) (fun b u e=>?_) I.bare
 ·have e:b=it:=by simpa using hb
  subst e
  exact⟨h1,hL,h2,h3⟩
 ·obtain⟨o,es,ep,ho,r⟩:=hm
  exact⟨o,es,ep,k _ o (Ne.symm hL) ho,r⟩
 ·refine(I.hok b u e).stay (fun c v hc q=>k c v ?_ q) (fun _ q=>q) fun _ _ q=>q
  rcases hc with z | z
  ·rw[z];exact nit b u e
  ·exact nit c _ z
theorem Inv.tok(I:Inv X pins σ H s)(t:Nat):Inv X pins σ H { s with toks:=t }:=I.un (h':=s.heap) (t':=t) Un.refl I.hok
theorem Inv.kept{t':Nat}(I:Inv X pins σ H s)(k:∀ b u,s.heap.get? b=some u->h'.get? b=some u):Inv X pins σ H { s with heap:=h',toks:=t' }:=I.un (Un.kept k) (I.hok.kept k)
theorem Inv.laid{a:Addr}{o:HO}{t':Nat}(I:Inv X pins σ H s)(k:∀ b u,s.heap.get? b=some u->h'.get? b=some u)(hp:s.heap.objs.size<=a)(new:ObjOk X.prog X.w (upd H a o) h' a o) :
  Inv X pins σ (upd H a o) { s with heap:=h',toks:=t' }:=I.un (Un.laid k hp (I.hok.fresh hp)) (I.hok.laid k hp new)
theorem Inv.write{x e:Addr}{o:HO}{t':Nat}(I:Inv X pins σ H s)(mu:Mut (H x))(he:e=x\/H e=some (.own x))(k:∀ b u,b≠e->s.heap.get? b=some u->h'.get? b=some u)(heo:∃ u,h'.get? e=some u)
  (new:ObjOk X.prog X.w (upd H x o) h' x o):Inv X pins σ (upd H x o) { s with heap:=h',toks:=t' }:=I.un (Un.write mu he k heo) (I.hok.write mu he k heo new)
theorem Inv.weak{σ':List (Option V)}(I:Inv X pins σ H s)(hl:σ'.length=σ.length)(w:∀ (i:Nat) v,σ'[i]?=some (some v)->σ[i]?=some (some v)):Inv X pins σ' H s :=
 ⟨I.ok,I.os,I.bare,I.base,let ⟨m,hn,hl'⟩:=I.loc;⟨m,hn,fun i x v e1 e2 e3=>hl' i x v e1 (w i v e2) e3⟩,I.cell,I.free,I.freeC,I.pin,I.hok,hl.trans I.len⟩
theorem Inv.pins_of{pins':List (Addr×Obj)}(I:Inv X pins σ H s)(h:∀ p∈pins',s.heap.get? p.1=some p.2/\H p.1=none/\p.1≠X.env.locals/\p.1∉X.fs/\∀ v,p.2.data≠.cell v):Inv X pins' σ H s :=
 ⟨I.ok,I.os,I.bare,I.base,I.loc,I.cell,I.free,I.freeC,fun p hp=>(List.mem_append.mp hp).elim (fun z=>I.pin p (List.mem_append_left _ z)) (h p),I.hok,I.len⟩
theorem nodup_ix{N:List Str}(hN:N.Nodup){i j:Nat}{x:Str}(a:N[i]?=some x)(b:N[j]?=some x):i=j:=by
 obtain⟨h1,e1⟩:=List.getElem?_eq_some_iff.mp a
 obtain⟨h2,e2⟩:=List.getElem?_eq_some_iff.mp b
 exact(List.getElem_inj hN).mp (e1.trans e2.symm)
theorem store_ok2{M:Model}{A:Around}{E:Value->Shared->Prop}{i:Nat}{x:Str}{v:V}{u:Value}{Q:Unit->Shared->Prop}(I:Inv X pins σ H s)(hN:X.N.Nodup)(hi:X.N[i]?=some x)(hx:Loc X.env.scope x)(r:RelV v u)
  (h:∀ s',Inv X pins (σ.set i (some v)) H s'->(∃ a,Heap.SameBut a s.heap s'.heap/\(a=X.env.locals\/X.env.cells.lookup x=some a))->Q () s') (hf:X.fn x=true\/X.env.scope.names.lookup x=some .local:=by first | exact .inl rfl | exact .inr rfl | assumption):wpAny M A (storeName X.env x u) Q E s:=by
 obtain⟨m,hn,hl⟩:=id I.loc
 have hcls:(X.env.scope.kind == .class ||(X.env.scope.kind == .module && X.env.locals != X.env.globals))=false:=by rw[I.ok.kind];rfl
 have hiσ:i<σ.length:=by rw[I.len];exact(List.getElem?_eq_some_iff.mp hi).1
 have cne:=I.cne
 have tracked:∀ {a:Addr}{h':Heap},(∃ o,s.heap.get? a=some o/\H a=none)->Heap.SameBut a s.heap h'->HOk X.prog X.w H h':=fun {a h'} ha hs b ob e=>by
  obtain⟨_,_,hfree⟩:=ha
  refine(I.hok b ob e).stay (fun c w' hc q=>(hs.2 c ?_).trans q) (fun _ q=>q) fun _ _ q=>q
  rintro rfl
  rcases hc with rfl | hc
  ·rw[hfree]at e;cases e
  ·rw[hfree]at hc;cases hc
 rcases hx with hk | hk
 ·refine wpAny_storeName_local hk hn (fun h' hn' hs=>?_) hcls
  obtain⟨oL,_,_,hoL,_⟩:=id hn
  refine h _ ⟨I.ok,I.os,I.bare,⟨fun b o e n hb hx=>?_,fun b o e n hb hx=>?_,I.base.free,fun b o e hx=>?_,I.base.tups,I.base.frzs,I.base.tbls⟩,⟨_,hn',fun j y v' e1 e2 e3=>?_⟩,fun y c e=>?_,I.free,I.freeC,fun p hp=>?_,tracked ⟨oL,hoL,I.free⟩ hs,by simpa using I.len⟩ ⟨_,hs,.inl rfl⟩
  ·exact(hs.2 b (Nat.ne_of_lt (Nat.lt_of_lt_of_le (Heap.lt_size e) I.ok.above))).trans (I.base.keep b o e n hb hx)
  ·obtain⟨sl,e1⟩:=I.base.slot b o e n hb hx
   exact⟨sl,(hs.2 b (Nat.ne_of_lt (Nat.lt_of_lt_of_le (Heap.lt_size e) I.ok.above))).trans e1⟩
  ·obtain⟨o',e1⟩:=I.base.there b o e hx
   exact⟨o',(hs.2 b (Nat.ne_of_lt (Nat.lt_of_lt_of_le (Heap.lt_size e) I.ok.above))).trans e1⟩
  ·by_cases hj:j=i
   ·subst hj
    rw[hi]at e1;cases e1
    rw[List.getElem?_set_self hiσ]at e2
    cases e2
    exact⟨u,r,.inl ⟨hk,by simp⟩⟩
   ·rw[List.getElem?_set_ne (Ne.symm hj)]at e2
    obtain⟨u',r',q⟩:=hl j y v' e1 e2 e3
    refine⟨u',r',?_⟩
    rcases q with⟨k,e⟩ |⟨k,c,e,z⟩
    ·refine .inl ⟨k,?_⟩
     have:y≠x:=fun e=>hj (nodup_ix hN e1 (e▸hi))
     simp[this,e]
    ·exact .inr ⟨k,c,e,z.sameBut hs (cne y c e)⟩
  ·obtain⟨w',z⟩:=I.cell y c e
   exact⟨w',z.sameBut hs (cne y c e)⟩
  ·obtain⟨e,n,ne,nf,d⟩:=I.pin p hp
   exact⟨(hs.2 p.1 ne).trans e,n,ne,nf,d⟩
 ·have hfn:X.fn x=true:=by
   rcases hf with z | z
   ·exact z
   ·rw[z]at hk;cases hk
  obtain⟨c,hc⟩:=I.ok.has x (.inl hk)
  obtain⟨w',z⟩:=I.cell x c hc
  refine wpAny_storeName_cell I.ok.kind hk hc z (fun h' hc' hs=>?_)
  obtain⟨oc,hoc,hocd⟩:=id z
  refine h { s with heap:=h' } ⟨I.ok,I.os,I.bare,⟨fun b o e n hb hx=>?_,fun b o e n hb hx=>?_,I.base.free,fun b o e hx=>?_,I.base.tups,I.base.frzs,I.base.tbls⟩,⟨m,hn.sameBut hs (Ne.symm (cne x c hc)),fun j y v' e1 e2 e3=>?_⟩,fun y c' e=>?_,I.free,I.freeC,fun p hp=>?_,tracked ⟨oc,hoc,I.freeC x c hc⟩ hs,by simpa using I.len⟩ ⟨c,hs,.inr hc⟩
  ·exact(hs.2 b (Nat.ne_of_lt (Nat.lt_of_lt_of_le (Heap.lt_size e) (I.ok.cab x c hfn hc)))).trans (I.base.keep b o e n hb hx)
  ·obtain⟨sl,e1⟩:=I.base.slot b o e n hb hx
   exact⟨sl,(hs.2 b (Nat.ne_of_lt (Nat.lt_of_lt_of_le (Heap.lt_size e) (I.ok.cab x c hfn hc)))).trans e1⟩
  ·obtain⟨o',e1⟩:=I.base.there b o e hx
   exact⟨o',(hs.2 b (Nat.ne_of_lt (Nat.lt_of_lt_of_le (Heap.lt_size e) (I.ok.cab x c hfn hc)))).trans e1⟩
  ·by_cases hj:j=i
   ·subst hj
    rw[hi]at e1;cases e1
    rw[List.getElem?_set_self hiσ]at e2
    cases e2
    exact⟨u,r,.inr ⟨.inl hk,c,hc,hc'⟩⟩
   ·rw[List.getElem?_set_ne (Ne.symm hj)]at e2
    obtain⟨u',r',q⟩:=hl j y v' e1 e2 e3
    refine⟨u',r',?_⟩
    rcases q with q |⟨k,c',e,z'⟩
    ·exact .inl q
    ·refine .inr ⟨k,c',e,z'.sameBut hs ?_⟩
     rintro rfl
     exact hj (nodup_ix hN e1 (I.ok.inj _ _ _ e hc▸hi))
  ·by_cases hcc:c'=c
   ·subst hcc;exact⟨_,hc'⟩
   ·obtain⟨w2,z2⟩:=I.cell y c' e
    exact⟨w2,z2.sameBut hs hcc⟩
  ·obtain⟨e,n,ne,nf,d⟩:=I.pin p hp
   refine⟨(hs.2 p.1 ?_).trans e,n,ne,nf,d⟩
   intro q
   rw[q,hoc]at e
   have q':oc=p.2:=Option.some.inj e
   exact d w' (by rw[<- q'];exact hocd)
theorem store_ok{M:Model}{A:Around}{E:Value->Shared->Prop}{i:Nat}{x:Str}{v:V}{u:Value}{Q:Unit->Shared->Prop}(I:Inv X pins σ H s)(hN:X.N.Nodup)(hi:X.N[i]?=some x)(hx:Loc X.env.scope x)(r:RelV v u)
  (h:∀ s',Inv X pins (σ.set i (some v)) H s'->Q () s') (hf:X.fn x=true\/X.env.scope.names.lookup x=some .local:=by first | exact .inl rfl | exact .inr rfl | assumption):wpAny M A (storeName X.env x u) Q E s :=
 store_ok2 I hN hi hx r (fun s' I' _=>h s' I') hf
theorem Inv.call'{s':Shared}{ch:List Addr}(I:Inv X pins σ H s)(ho:s'.os=s.os)(u:Un (frs X.stack) ch H H' s.heap s'.heap)(hok:HOk X.prog X.w H' s'.heap)(hg:AllBare s'.gens)
  (hch:∀ b∈ch,(b∈X.ex\/X.s₀.heap.objs.size<=b)/\b≠X.env.locals/\(∀ x c,X.env.cells.lookup x=some c->c≠b)/\∀ p∈X.pn++pins,p.1≠b):Inv X pins σ H' s':=by
 obtain⟨h',g',d',t',o'⟩:=s'
 have e:o'=s.os:=ho
 subst e
 exact I.call (g':=g') (t':=t') (d':=d') u hok hg hch
end
noncomputable abbrev XK:=Value->Option Addr->Hp->Prop
noncomputable abbrev St:=List (Option V)
noncomputable abbrev VK:=V->Hp->Prop
noncomputable abbrev TE:=St->Hp->VK->Prop
noncomputable abbrev TT:=St->Hp->(Bool->Hp->Prop)->Prop
noncomputable abbrev TA:=St->Hp->(List V->Hp->Prop)->Prop
structure Ends where
 nx:St->Hp->Prop
 rt:VK
 bk:St->Hp->Prop:=fun _ _=>False
 ct:St->Hp->Prop:=fun _ _=>False
noncomputable abbrev TS:=Ends->St->Hp->Prop
noncomputable def EP(X:Cx)(pins:List (Addr×Obj))(σ:St)(Q:VK)(u:Value)(s':Shared):Prop:=∃ v H',Inv X pins σ H' s'/\RelV v u/\Q v H'
noncomputable def TP(X:Cx)(pins:List (Addr×Obj))(σ:St)(Q:Bool->Hp->Prop)(b:Bool)(s':Shared):Prop:=∃ H',Inv X pins σ H' s'/\Q b H'
noncomputable def AP(X:Cx)(pins:List (Addr×Obj))(σ:St)(Q:List V->Hp->Prop)(us:List Value)(s':Shared):Prop:=∃ vs H',Inv X pins σ H' s'/\Vals vs us/\Q vs H'
noncomputable def SP(X:Cx)(pins:List (Addr×Obj))(D:Ends)(f:Flow)(s':Shared):Prop :=
 match f with
 | .next=>∃ σ' H',Inv X pins σ' H' s'/\D.nx σ' H'
 | .brk=>∃ σ' H',Inv X pins σ' H' s'/\D.bk σ' H'
 | .cont=>∃ σ' H',Inv X pins σ' H' s'/\D.ct σ' H'
 | .ret u=>∃ v σ' H',Inv X pins σ' H' s'/\RelV v u/\D.rt v H'
noncomputable def PE(X:Cx)(e:Expr)(t:TE):Prop :=
 ∀ (pins:List (Addr×Obj)) (s:Shared) (σ:St) (H:Hp) (Q:VK),Inv X pins σ H s->t σ H Q->wpAny (model X.prog X.w) X.A (eval e X.env) (EP X pins σ Q) X.xe s
noncomputable def PT(X:Cx)(e:Expr)(t:TT):Prop :=
 ∀ (pins:List (Addr×Obj)) (s:Shared) (σ:St) (H:Hp) (Q:Bool->Hp->Prop),Inv X pins σ H s->t σ H Q->wpAny (model X.prog X.w) X.A (isTrue e X.env (eval e X.env)) (TP X pins σ Q) X.xe s
noncomputable def PW(X:Cx)(e:Expr)(t:TT):Prop :=
 ∀ (whole:Sem Value) (pins:List (Addr×Obj)) (s:Shared) (σ:St) (H:Hp) (Q:Bool->Hp->Prop),Inv X pins σ H s->t σ H Q->wpAny (model X.prog X.w) X.A (isTrue e X.env whole) (TP X pins σ Q) X.xe s
theorem PW.pt{X:Cx}{e:Expr}{t:TT}(h:PW X e t):PT X e t:=h _
noncomputable def PA(X:Cx)(es:List Expr)(t:TA):Prop :=
 ∀ (pos:Pos) (pins:List (Addr×Obj)) (s:Shared) (σ:St) (H:Hp) (Q:List V->Hp->Prop),Inv X pins σ H s->t σ H Q->wpAny (model X.prog X.w) X.A (spliced (backTo pos (starEach es X.env))) (AP X pins σ Q) X.xe s
noncomputable def PS(X:Cx)(st:Stmt)(t:TS):Prop :=
 ∀ (pins:List (Addr×Obj)) (s:Shared) (σ:St) (H:Hp) (D:Ends),Inv X pins σ H s->t D σ H->wpAny (model X.prog X.w) X.A (exec st X.env) (SP X pins D) X.xe s
noncomputable def PSs(X:Cx)(st:List Stmt)(t:TS):Prop :=
 ∀ (pins:List (Addr×Obj)) (s:Shared) (σ:St) (H:Hp) (D:Ends),Inv X pins σ H s->t D σ H->wpAny (model X.prog X.w) X.A (execs st X.env) (SP X pins D) X.xe s
theorem thn{α:Type}{t:Sem α}{Q Q':α->Shared->Prop}{M:Model}{A:Around}{E:Value->Shared->Prop}{s:Shared}(h:wpAny M A t Q E s)(hQ:∀ a s,Q a s->Q' a s):wpAny M A t Q' E s:=wpAny_mono h hQ fun _ _ x=>x
open PySem PySem.Spec PyProof.Rows
section
variable{X:Cx}
inductive Ex3{t0 t1 t2:Type}(P:t0->t1->t2->Prop):Prop where
 |mk (a0:t0) (a1:t1) (a2:t2) (h:P a0 a1 a2)
inductive Ex5{t0 t1 t2 t3 t4:Type}(P:t0->t1->t2->t3->t4->Prop):Prop where
 |mk (a0:t0) (a1:t1) (a2:t2) (a3:t3) (a4:t4) (h:P a0 a1 a2 a3 a4)
inductive tVarI(i:Nat)(σ:St)(H:Hp)(Q:VK):Prop where
 |mk (v:_) (h1:σ[i]?=some (some v)) (h2:Q v H)
noncomputable def tVar(i:Nat):TE:=fun σ H Q=>tVarI i σ H Q
noncomputable def tC(v:V):TE:=fun _ H Q=>Q v H
theorem pe_var{i:Nat}{x:Str}{pos:Pos}(hN:X.N[i]?=some x)(hv:Vis X.env.scope x)(hd:(x ==("__debug__":Str))=false:=by decide)(hcd:(x ==("__classdict__":Str))=false:=by decide):PE X (.Name x pos) (tVar i):=by
 intro pins s σ H Q I h
 obtain⟨v,e,h⟩:=h
 obtain⟨m,hn,hl⟩:=I.loc
 obtain⟨u,r,l⟩:=hl i x v hN e hv
 have fin:EP X pins σ Q u s:=⟨v,H,I,r,h⟩
 rcases l with⟨hk,hm⟩ |⟨hk,c,hc,hcell⟩
 ·exact wpAny_Name (wpAny_loadName_local I.ok.kind hk hn hm fin) hd
 ·rcases hk with hk | hk
  ·exact wpAny_Name (wpAny_loadName_cell I.ok.kind hk hc hcell fin) hd
  ·exact wpAny_Name (wpAny_loadName_free I.ok.kind hk hc hcell fin hcd) hd
theorem pe_int{i j pos}:PE X (.Constant (.int i) j pos) (tC (.int i)):=fun _ _ _ H _ I h=>wpAny_Constant_int ⟨.int i,H,I.tok _,⟨_,rfl⟩,h⟩
theorem pe_bl{b j pos}:PE X (.Constant (.bool b) j pos) (tC (.bl b)):=fun _ _ _ H _ I h=>Constant_bool ⟨.bl b,H,I,rfl,h⟩
theorem pe_non{j pos}:PE X (.Constant .none j pos) (tC .non):=fun _ _ _ H _ I h=>Constant_none ⟨.non,H,I,rfl,h⟩
noncomputable def Gl(X:Cx)(x:Str):Prop:=X.env.kindOf x=some .globalImplicit
theorem ld_glob{E:Value->Shared->Prop}{pins:List (Addr×Obj)}{s:Shared}{σ:St}{H:Hp}{x:Str}{u:Value}{pos:Pos}{Q:Value->Shared->Prop}(I:Inv X pins σ H s)(hg:Gl X x)(hm:X.mg x=some u)(h:Q u s)
  (hd:(x ==("__debug__":Str))=false:=by decide):wpAny (model X.prog X.w) X.A (eval (.Name x pos) X.env) Q E s :=
 Calls.Name_function_global I.ok.kind hg (Calls.loadGlobal_global (by rw[I.ok.glob];exact I.mod.glob.keeps I.bk) hm h) hd
theorem ld_blt{E:Value->Shared->Prop}{pins:List (Addr×Obj)}{s:Shared}{σ:St}{H:Hp}{x:Str}{u:Value}{pos:Pos}{Q:Value->Shared->Prop}(I:Inv X pins σ H s)(hg:Gl X x)(hm:X.mg x=none)(hv:bootBuiltins x=some u)(h:Q u s)
  (hn:x≠"__name__":=by decide) (hd:(x ==("__debug__":Str))=false:=by decide):wpAny (model X.prog X.w) X.A (eval (.Name x pos) X.env) Q E s:=by
 obtain⟨mb,h1,h2⟩:=I.mod.blt
 exact Calls.Name_function_global I.ok.kind hg (Calls.loadGlobal_builtin (by rw[I.ok.glob];exact I.mod.glob.keeps I.bk) hm (by rw[I.ok.blt];exact h1.keeps I.bk) ((h2 x hn).trans hv) h) hd
variable{a b:Expr}{ta tb:TE}{pos:Pos}
noncomputable def PC(X:Cx)(op:CmpOp)(a b:Expr)(t:TE):Prop :=
 ∀ (pins:List (Addr×Obj)) (s:Shared) (σ:St) (H:Hp) (Q:VK),Inv X pins σ H s->t σ H Q ->
  wpAny (model X.prog X.w) X.A (eval a X.env) (fun v s₁=>wpAny (model X.prog X.w) X.A (eval b X.env) (fun u s₂=>wpAny (model X.prog X.w) X.A (compareOp op v u) (EP X pins σ Q) X.xe s₂) X.xe s₁) X.xe s
theorem nobehind(b:Expr){op:CmpOp}(h:op≠.In)(h2:op≠.NotIn):behindInMarks op b=false:=by
 have e1:(op == CmpOp.In)=false:=by cases op <;> first | rfl | exact absurd rfl h
 have e2:(op == CmpOp.NotIn)=false:=by cases op <;> first | rfl | exact absurd rfl h2
 cases b <;> simp[behindInMarks,e1,e2]
noncomputable def tNotN(ta:TE):TE:=fun σ H Q=>ta σ H fun x H1=>Q (.bl (!decide (x = .non))) H1
theorem RelV.none_iff{x:V}{v:Value}(r:RelV x v):(v == Value.none)=decide (x = .non):=by
 cases x with
 |non=>cases r;rfl
 |bl _=>cases r;rfl
 |int _=>obtain⟨t,rfl⟩:=r;rfl
 |str _=>obtain⟨t,rfl⟩:=r;rfl
 |byt _=>obtain⟨t,rfl⟩:=r;rfl
 |flt _=>obtain⟨t,rfl⟩:=r;rfl
 |ref _=>cases r;rfl
 |ty _=>cases r;rfl
theorem pc_notN{j pos'}(ha:PE X a ta):PC X .IsNot a (.Constant .none j pos') (tNotN ta):=by
 intro pins s σ H Q I h
 refine thn (ha pins s σ H _ I h) fun v s1 ⟨x,H1,I1,r1,q1⟩=>?_
 exact Constant_none (isnot_none_gen ⟨.bl _,H1,I1,by rw[r1.none_iff];rfl,q1⟩)
inductive ExB(x:V)(Q:Bool->Prop):Prop where
 |mk (c:Bool) (e:x = .bl c) (h:Q c)
noncomputable def tB(t:TE):TT:=fun σ H Q=>t σ H fun x H1=>ExB x fun c=>Q c H1
theorem pt_cmp{op:CmpOp}{t:TE}(h:PC X op a b t)(h1:behindInMarks op b=false:=by first | exact nobehind _ (by decide) (by decide) | rfl):PT X (.Compare a [op] [b] pos) (tB t):=by
 intro pins s σ H Q I hw
 refine wpAny_isTrue_Compare1 (thn (h pins s σ H _ I hw) fun v s1 h1=>thn h1 fun u s2 h2=>thn h2 fun c s3 ⟨x,H1,I1,r1,q1⟩=>?_) h1
 obtain⟨d,rfl,q⟩:=q1
 cases r1
 exact wpAny_truthy_bool ⟨H1,I1,q⟩
theorem pt_val{e:Expr}{t:TE}(h:PE X e t)(he:∀ whole,isTrue e X.env whole=(do let v <- whole;standAt e.pos;holding [v] (truthy v)):=by intro _;rfl):PT X e (tB t):=by
 intro pins s σ H Q I hw
 refine isTrue_plain (thn (h pins s σ H _ I hw) fun v s1 ⟨x,H1,I1,r1,q1⟩=>?_) (he _)
 obtain⟨d,rfl,q⟩:=q1
 cases r1
 exact wpAny_truthy_bool ⟨H1,I1,q⟩
variable{tA tB':TT}{rest:List Expr}
noncomputable def tAnd(t u:TT):TT:=fun σ H Q=>t σ H fun c H1=>if c=true then u σ H1 Q else Q false H1
noncomputable def tOr(t u:TT):TT:=fun σ H Q=>t σ H fun c H1=>if c=true then Q true H1 else u σ H1 Q
noncomputable def tNot(t:TT):TT:=fun σ H Q=>t σ H fun c H1=>Q (!c) H1
theorem pw_and1(ha:PT X a tA):PW X (.BoolOp .And [a] pos) tA:=by
 intro wh pins s σ H Q I h
 refine isTrue_and (thn (ha pins s σ H Q I h) fun c s1 e=>?_)
 cases c with
 |true=>exact isTrue_and_nil e
 |false=>exact e
theorem pw_or1(ha:PT X a tA):PW X (.BoolOp .Or [a] pos) tA:=by
 intro wh pins s σ H Q I h
 refine isTrue_or (thn (ha pins s σ H Q I h) fun c s1 e=>?_)
 cases c with
 |false=>exact isTrue_or_nil e
 |true=>exact e
theorem pw_and(ha:PT X a tA)(hb:PW X (.BoolOp .And (b :: rest) pos) tB'):PW X (.BoolOp .And (a :: b :: rest) pos) (tAnd tA tB'):=by
 intro wh pins s σ H Q I h
 refine isTrue_and (thn (ha pins s σ H _ I h) fun c s1 ⟨H1,I1,q1⟩=>?_)
 cases c with
 |true=>exact hb wh pins s1 σ H1 Q I1 q1
 |false=>exact⟨H1,I1,q1⟩
theorem pw_or(ha:PT X a tA)(hb:PW X (.BoolOp .Or (b :: rest) pos) tB'):PW X (.BoolOp .Or (a :: b :: rest) pos) (tOr tA tB'):=by
 intro wh pins s σ H Q I h
 refine isTrue_or (thn (ha pins s σ H _ I h) fun c s1 ⟨H1,I1,q1⟩=>?_)
 cases c with
 |true=>exact⟨H1,I1,q1⟩
 |false=>exact hb wh pins s1 σ H1 Q I1 q1
theorem pt_not(ha:PT X a tA):PT X (.UnaryOp .Not a pos) (tNot tA):=by
 intro pins s σ H Q I h
 exact isTrue_not (ha pins s σ H (fun c H1=>Q (!c) H1) I h)
noncomputable def tOrV(ta tb:TE):TE:=fun σ H Q=>ta σ H fun x H1=>ExB x fun c=>if c=true then Q (.bl true) H1 else tb σ H1 Q
theorem pe_one{op}{t:TE}(h:PE X a t):PE X (.BoolOp op [a] pos) t:=fun pins s σ H Q I hw=>BoolOp_one (h pins s σ H Q I hw)
theorem pe_or(ha:PE X a ta)(hb:PE X (.BoolOp .Or (b :: rest) pos) tb):PE X (.BoolOp .Or (a :: b :: rest) pos) (tOrV ta tb):=by
 intro pins s σ H Q I h
 refine BoolOp_or (thn (ha pins s σ H _ I h) fun v s1 ⟨x,H1,I1,r1,q1⟩=>?_)
 obtain⟨c,rfl,q1⟩:=q1
 cases r1
 refine wpAny_truthy_bool ?_
 cases c with
 |false=>exact hb pins s1 σ H1 Q I1 q1
 |true=>exact⟨.bl true,H1,I1,rfl,q1⟩
noncomputable def tIf(t:TT)(ta tb:TE):TE:=fun σ H Q=>t σ H fun c H1=>if c=true then ta σ H1 Q else tb σ H1 Q
theorem pe_ifExp{c:Expr}(hc:PT X c tA)(ha:PE X a ta)(hb:PE X b tb):PE X (.IfExp c a b pos) (tIf tA ta tb):=by
 intro pins s σ H Q I h
 refine wpAny_IfExp (thn (hc pins s σ H _ I h) fun d s1 ⟨H1,I1,q1⟩=>?_)
 cases d with
 |true=>exact ha pins s1 σ H1 Q I1 q1
 |false=>exact hb pins s1 σ H1 Q I1 q1
end
open PySem PySem.Spec PyProof.Rows
noncomputable def SqL(K:PySem.W.Frag)(H:Hp)(a:Addr)(xs:List V):Prop :=
 Rd H a (.lst xs) \/
  ∃ (o:Obj) (its:Array Value) (n:Nat),K.lookup a=some o/\o.cls = .type "list"/\o.dict=none/\o.data = .seq its n/\its.size<=sizeLine/\Vals xs its.toList
noncomputable def SqT(K:PySem.W.Frag)(H:Hp)(a:Addr)(xs:List V):Prop :=
 Rd H a (.tup xs) \/
  ∃ (o:Obj) (its:Array Value) (n:Nat),K.lookup a=some o/\o.cls = .type "tuple"/\o.data = .seq its n/\its.size<=sizeLine/\Vals xs its.toList
noncomputable def absV:Value->Option V
 | .none=>some .non
 | .bool b=>some (.bl b)
 | .int i _=>some (.int i)
 | .str x _=>some (.str x)
 | .bytes b _=>some (.byt b)
 | .float b _=>some (.flt b)
 | .ref a=>some (.ref a)
 | .type n=>some (.ty n)
 | _=>none
theorem RelV.abs{x:V}{u:Value}(r:RelV x u):absV u=some x:=by
 cases x with
 |non=>cases r;rfl
 |bl _=>cases r;rfl
 |int _=>obtain⟨t,rfl⟩:=r;rfl
 |str _=>obtain⟨t,rfl⟩:=r;rfl
 |byt _=>obtain⟨t,rfl⟩:=r;rfl
 |flt _=>obtain⟨t,rfl⟩:=r;rfl
 |ref _=>cases r;rfl
 |ty _=>cases r;rfl
theorem RelV.inj{x y:V}{u:Value}(r:RelV x u)(q:RelV y u):x=y:=Option.some.inj (r.abs.symm.trans q.abs)
theorem Vals.inj:∀ {xs ys:List V}{us:List Value},Vals xs us->Vals ys us->xs=ys:=by
 intro xs ys us h
 induction h generalizing ys with
 |nil=>intro h';cases h';rfl
 |cons r t ih =>
  intro h'
  cases h' with
  |cons r' t'=>rw[r.inj r',ih t']
section
variable{X:Cx}{pins:List (Addr×Obj)}{σ:St}{H:Hp}{s:Shared}{a:Addr}{xs ys:List V}
theorem SqL.of{K:PySem.W.Frag}(h:H a=some (.lst xs)):SqL K H a xs:=.inl (.inl h)
theorem SqT.of{K:PySem.W.Frag}(h:H a=some (.tup xs)):SqT K H a xs:=.inl (.inl h)
theorem Inv.list(I:Inv X pins σ H s)(h:SqL X.K H a xs):∃ its:List Value,Vals xs its/\PlainL s.heap a its.toArray/\xs.length<=sizeLine:=by
 rcases h with h |⟨o,its,n,hk,hc,hd,hs,hz,r⟩
 ·obtain⟨z,its,n,r,e⟩:=h.ok I.hok
  exact⟨its,r,⟨_,n,e,rfl,rfl,rfl⟩,z⟩
 ·refine⟨its.toList,r,⟨o,n,I.kIn a o hk,hc,hd,by simpa using hs⟩,?_⟩
  have e:=r.length
  simp only[Array.length_toList]at e
  lia
theorem Inv.tuple(I:Inv X pins σ H s)(h:SqT X.K H a xs):∃ its:List Value,Vals xs its/\IsTup s.heap a its.toArray/\xs.length<=sizeLine:=by
 rcases h with h |⟨o,its,n,hk,hc,hs,hz,r⟩
 ·obtain⟨z,its,r,p⟩:=h.ok I.hok
  exact⟨its,r,p,z⟩
 ·refine⟨its.toList,r,⟨o,I.kIn a o hk,hc,n,by simpa using hs⟩,?_⟩
  have e:=r.length
  simp only[Array.length_toList]at e
  lia
theorem Inv.list_inj(I:Inv X pins σ H s)(h:SqL X.K H a xs)(h':SqL X.K H a ys):xs=ys:=by
 obtain⟨its,r,⟨o,n,e,_,_,d⟩,_⟩:=I.list h
 obtain⟨its',r',⟨o',n',e',_,_,d'⟩,_⟩:=I.list h'
 rw[e]at e';cases e'
 rw[d]at d'
 injection d' with d1 _
 have:its=its':=by simpa using congrArg Array.toList d1
 subst this
 exact r.inj r'
theorem Inv.tuple_inj(I:Inv X pins σ H s)(h:SqT X.K H a xs)(h':SqT X.K H a ys):xs=ys:=by
 obtain⟨its,r,⟨o,e,_,n,d⟩,_⟩:=I.tuple h
 obtain⟨its',r',⟨o',e',_,n',d'⟩,_⟩:=I.tuple h'
 rw[e]at e';cases e'
 rw[d]at d'
 injection d' with d1 _
 have:its=its':=by simpa using congrArg Array.toList d1
 subst this
 exact r.inj r'
end
noncomputable abbrev Cx.wish(X:Cx)(E:Value->Shared->Prop):Cx:={ X with xe:=E }
noncomputable abbrev Cx.nox(X:Cx):Cx:=X.wish fun _ _=>False
theorem Cx.Ok.wish{X:Cx}(ok:X.Ok)(E:Value->Shared->Prop):(X.wish E).Ok :=
 ⟨ok.mod,ok.kind,ok.glob,ok.blt,ok.above,ok.inj,ok.has,ok.cab,ok.hd,ok.frames,ok.stk,ok.exf,ok.bs,ok.bsz,ok.noex,ok.exfs,ok.funs,ok.frf⟩
theorem Cx.Ok.unwish{X:Cx}{E:Value->Shared->Prop}(ok:(X.wish E).Ok):X.Ok :=
 ⟨ok.mod,ok.kind,ok.glob,ok.blt,ok.above,ok.inj,ok.has,ok.cab,ok.hd,ok.frames,ok.stk,ok.exf,ok.bs,ok.bsz,ok.noex,ok.exfs,ok.funs,ok.frf⟩
section
variable{X:Cx}{pins:List (Addr×Obj)}{σ:St}{H:Hp}{s:Shared}{E:Value->Shared->Prop}
theorem Inv.wish(I:Inv X pins σ H s)(E:Value->Shared->Prop):Inv (X.wish E) pins σ H s:=⟨I.ok.wish E,I.os,I.bare,I.base,I.loc,I.cell,I.free,I.freeC,I.pin,I.hok,I.len⟩
theorem Inv.unwish(I:Inv (X.wish E) pins σ H s):Inv X pins σ H s:=⟨I.ok.unwish,I.os,I.bare,I.base,I.loc,I.cell,I.free,I.freeC,I.pin,I.hok,I.len⟩
theorem SP.unwish{D:Ends}{f:Flow}{s':Shared}(h:SP (X.wish E) pins D f s'):SP X pins D f s':=by
 cases f with
 |next=>obtain⟨σ',H',I,q⟩:=h;exact⟨σ',H',I.unwish,q⟩
 |brk=>obtain⟨σ',H',I,q⟩:=h;exact⟨σ',H',I.unwish,q⟩
 |cont=>obtain⟨σ',H',I,q⟩:=h;exact⟨σ',H',I.unwish,q⟩
 |ret u=>obtain⟨v,σ',H',I,r,q⟩:=h;exact⟨v,σ',H',I.unwish,r,q⟩
theorem PSs.nox{st:List Stmt}{t:TS}(h:PSs X.nox st t):PSs X st t:=fun pins s σ H D I hw =>
 wpAny_mono (h pins s σ H D (I.wish _) hw) (fun _ _ q=>q.unwish) fun _ _ z=>False.elim z
end
section
variable{X:Cx}{st:Stmt}{rest:List Stmt}{t u:TS}{e:Expr}{te:TE}{pos:Pos}
noncomputable def tNext:TS:=fun D σ H=>D.nx σ H
noncomputable def tSeq(t u:TS):TS:=fun D σ H=>t { D with nx:=u D } σ H
theorem pss_nil:PSs X [] tNext:=fun _ _ σ H _ I h=>wpAny_execs_nil ⟨σ,H,I,h⟩
theorem pss_cons(h1:PS X st t)(h2:PSs X rest u):PSs X (st :: rest) (tSeq t u):=by
 intro pins s σ H D I h
 refine wpAny_execs_cons (thn (h1 pins s σ H { D with nx:=u D } I h) fun f s1 q=>?_)
 cases f with
 |next =>
  obtain⟨σ',H',I',q⟩:=q
  exact h2 pins s1 σ' H' D I' q
 |ret v=>exact q
 |brk=>exact q
 |cont=>exact q
theorem pss_one(h1:PS X st t):PSs X [st] t:=by
 intro pins s σ H D I h
 refine wpAny_execs_cons (thn (h1 pins s σ H D I h) fun f s1 q=>?_)
 cases f with
 |next=>exact wpAny_execs_nil q
 |ret v=>exact q
 |brk=>exact q
 |cont=>exact q
theorem Inv.quiet{pins:List (Addr×Obj)}{σ:St}{H:Hp}{s:Shared}(I:Inv X pins σ H s):interactive X.env=false:=by simp[interactive,I.ok.kind]
noncomputable def tDrop(te:TE):TS:=fun D σ H=>te σ H fun _ H1=>D.nx σ H1
theorem ps_expr(he:PE X e te)(hs:swapsWith e none pos.line X.env=pure false:=by rfl):PS X (.Expr e pos) (tDrop te):=by
 intro pins s σ H D I h
 exact wpAny_Expr_any (thn (he pins s σ H _ I h) fun v s1 ⟨x,H1,I1,r1,q1⟩=>⟨σ,H1,I1,q1⟩) I.quiet hs
noncomputable def tRet(te:TE):TS:=fun D σ H=>te σ H D.rt
theorem ps_ret(he:PE X e te):PS X (.Return (some e) pos) (tRet te):=by
 intro pins s σ H D I h
 exact wpAny_Return_some (thn (he pins s σ H _ I h) fun v s1 ⟨x,H1,I1,r1,q1⟩=>⟨x,σ,H1,I1,r1,q1⟩)
noncomputable def tIfS(c:TT)(t u:TS):TS:=fun D σ H=>c σ H fun b H1=>if b=true then t D σ H1 else u D σ H1
theorem ps_if{c:Expr}{a b:List Stmt}{tc:TT}(hc:PT X c tc)(ha:PSs X a t)(hb:PSs X b u):PS X (.If c a b pos) (tIfS tc t u):=by
 intro pins s σ H D I h
 refine wpAny_If (thn (hc pins s σ H _ I h) fun d s1 ⟨H1,I1,q1⟩=>?_)
 cases d with
 |true=>exact ha pins s1 σ H1 D I1 q1
 |false=>exact hb pins s1 σ H1 D I1 q1
noncomputable def tNever:TS:=fun _ _ _=>False
theorem pss_never{sts:List Stmt}:PSs X sts tNever:=fun _ _ _ _ _ _ h=>h.elim
end
noncomputable abbrev TG:=V->St->Hp->(St->Hp->Prop)->Prop
noncomputable abbrev TGs:=List V->St->Hp->(St->Hp->Prop)->Prop
noncomputable def PG(X:Cx)(target:Expr)(t:TG):Prop :=
 ∀ (pins:List (Addr×Obj)) (s:Shared) (σ:St) (H:Hp) (v:V) (u:Value) (Q:St->Hp->Prop),Inv X pins σ H s->RelV v u->t v σ H Q ->
  wpAny (model X.prog X.w) X.A (assign target X.env u) (fun _ s'=>∃ σ' H',Inv X pins σ' H' s'/\Q σ' H') X.xe s
noncomputable def PGs(X:Cx)(ts:List Expr)(t:TGs):Prop :=
 ∀ (pins:List (Addr×Obj)) (s:Shared) (σ:St) (H:Hp) (vs:List V) (us:List Value) (Q:St->Hp->Prop),Inv X pins σ H s->Vals vs us->t vs σ H Q ->
  wpAny (model X.prog X.w) X.A (assignInOrder ((assignEach ts X.env).map (·.2)) us) (fun _ s'=>∃ σ' H',Inv X pins σ' H' s'/\Q σ' H') X.xe s
noncomputable abbrev TSet:=V->V->V->Hp->(Hp->Prop)->Prop
noncomputable def PSet(X:Cx)(t:TSet):Prop :=
 ∀ (pins:List (Addr×Obj)) (s:Shared) (σ:St) (H:Hp) (o i v:V) (ov iv u:Value) (Q:Hp->Prop),Inv X pins σ H s->RelV o ov->RelV i iv->RelV v u->t o i v H Q ->
  wpAny (model X.prog X.w) X.A (setItem ov iv u) (fun _ s'=>∃ H',Inv X pins σ H' s'/\Q H') X.xe s
section
variable{X:Cx}{pos:Pos}
noncomputable def gName(i:Nat):TG:=fun v σ H Q=>Q (σ.set i (some v)) H
theorem pg_name{i:Nat}{x:Str}(hN:X.N.Nodup)(hi:X.N[i]?=some x)(hx:Loc X.env.scope x)(hf:X.fn x=true\/X.env.scope.names.lookup x=some .local:=by first | exact .inl rfl | exact .inr rfl | assumption):PG X (.Name x pos) (gName i):=by
 intro pins s σ H v u Q I r h
 exact wpAny_assign_Name (store_ok I hN hi hx r (fun s' I'=>⟨_,H,I',h⟩) hf)
noncomputable def gNil:TGs:=fun vs σ H Q=>vs=[]/\Q σ H
inductive gConsI(t:TG)(u:TGs)(vs:List V)(σ:St)(H:Hp)(Q:St->Hp->Prop):Prop where
 |mk (v:_) (r:_) (h1:vs=v :: r) (h2:t v σ H fun σ' H'=>u r σ' H' Q)
noncomputable def gCons(t:TG)(u:TGs):TGs:=fun vs σ H Q=>gConsI t u vs σ H Q
theorem pgs_nil:PGs X [] gNil:=by
 intro pins s σ H vs us Q I r h
 obtain⟨e,h⟩:=h
 subst e
 cases r
 exact assignInOrder_nil ⟨σ,H,I,h⟩
theorem pgs_cons{e:Expr}{es:List Expr}{t:TG}{u:TGs}(h1:PG X e t)(h2:PGs X es u)
  (hs:(assignEach (e :: es) X.env).map (·.2)=assign e X.env :: (assignEach es X.env).map (·.2):=by rfl):PGs X (e :: es) (gCons t u):=by
 intro pins s σ H vs us Q I r h
 obtain⟨v,vr,e1,h⟩:=h
 subst e1
 cases r with
 |cons r rr =>
  rw[hs]
  refine assignInOrder_cons (thn (h1 pins s σ H _ _ _ I r h) fun _ s1 ⟨σ1,H1,I1,q1⟩=>?_)
  exact h2 pins s1 σ1 H1 _ _ Q I1 rr q1
inductive gTupI(K:PySem.W.Frag)(n:Nat)(t:TGs)(v:V)(σ:St)(H:Hp)(Q:St->Hp->Prop):Prop where
 |mk (a:_) (xs:_) (h1:v = .ref a) (h2:SqT K H a xs) (h3:xs.length=n) (h4:t xs σ H Q)
noncomputable def gTup(K:PySem.W.Frag)(n:Nat)(t:TGs):TG:=fun v σ H Q=>gTupI K n t v σ H Q
theorem pg_tup{es:List Expr}{k:Nat}{t:TGs}{n:Nat}(hc:X.calm=true)(h:PGs X es t)
  (hn:(assignEach es X.env).length=n:=by rfl) (hst:(assignEach es X.env).findIdx? (·.1)=none:=by rfl):PG X (.Tuple es k pos) (gTup X.K n t):=by
 intro pins s σ H v u Q I r hw
 obtain⟨a,xs,e1,hq,hl,hw⟩:=hw
 subst e1
 cases r
 obtain⟨its,rv,ht,hz⟩:=I.tuple hq
 refine assign_Tuple_tuple (I.ok.hd hc) ht (by simp[hn,<- hl,rv.length]) hst fun h' hx=>?_
 have I1:Inv X pins σ H { s with heap:=h' }:=I.kept (t':=s.toks) fun b o e=>hx b o (Nat.ne_of_lt (Heap.lt_size e)) e
 exact h pins _ σ H xs _ Q I1 (by simpa using rv) hw
noncomputable def gSub(to ti:TE)(t:TSet):TG:=fun v σ H Q=>to σ H fun o H1=>ti σ H1 fun i H2=>t o i v H2 fun H3=>Q σ H3
theorem pg_sub{o i:Expr}{to ti:TE}{t:TSet}(ho:PE X o to)(hi:PE X i ti)(hs:PSet X t)
  (ha:∀ v,assign (.Subscript o i pos) X.env v=(do
   let ov <- holding [v] (eval o X.env)
   let iv <- holding [v,ov] (eval i X.env)
   standAt pos
   holding [v,ov,iv] (setItem ov iv v)
   release [v,ov,iv] []):=by intro _;rfl):PG X (.Subscript o i pos) (gSub to ti t):=by
 intro pins s σ H v u Q I r h
 rw[ha]
 refine wpAny_bind (wpAny_holding (thn (ho pins s σ H _ I h) fun ov s1 ⟨x,H1,I1,r1,q1⟩=>?_))
 refine wpAny_bind (wpAny_holding (thn (hi pins s1 σ H1 _ I1 q1) fun iv s2 ⟨y,H2,I2,r2,q2⟩=>?_))
 refine wpAny_bind (wpAny_standAt (wpAny_bind (wpAny_holding (thn (hs pins s2 σ H2 x y v ov iv u _ I2 r1 r2 r q2) fun _ s3 ⟨H3,I3,q3⟩=>?_))))
 exact wpAny_release ⟨σ,H3,I3,q3⟩
noncomputable def tAsg(te:TE)(g:TG):TS:=fun D σ H=>te σ H fun x H1=>g x σ H1 D.nx
theorem ps_asg{tg e:Expr}{te:TE}{g:TG}(he:PE X e te)(hg:PG X tg g)(hs:swapsWithSole [tg] e pos.line X.env=pure false:=by rfl)(hw:swappedStores [tg] e X.env=pure none:=by rfl)
  (h1:(assignEach [tg] X.env).map (·.2)=[assign tg X.env]:=by rfl):PS X (.Assign [tg] e pos) (tAsg te g):=by
 intro pins s σ H D I h
 refine wpAny_Assign_stores (thn (he pins s σ H _ I h) fun v s1 ⟨x,H1,I1,r1,q1⟩=>?_) hs hw
 rw[h1]
 exact thn (hg pins s1 σ H1 x v _ I1 r1 q1) fun _ s2 q=>q
theorem ps_set{i:Nat}{x:Str}{e:Expr}{te:TE}{pos':Pos}(hN:X.N.Nodup)(hi:X.N[i]?=some x)(hx:Loc X.env.scope x)(he:PE X e te)(hs:swapsWith e (some (.Name x pos')) pos.line X.env=pure false:=by rfl)(hf:X.fn x=true\/X.env.scope.names.lookup x=some .local:=by first | exact .inl rfl | exact .inr rfl | assumption) :
  PS X (.Assign [.Name x pos'] e pos) (tAsg te (gName i)):=by
 intro pins s σ H D I h
 refine wpAny_Assign_Name (thn (he pins s σ H _ I h) fun v s1 ⟨y,H1,I1,r1,q1⟩=>?_) hs
 exact store_ok I1 hN hi hx r1 (fun s2 I2=>⟨_,H1,I2,q1⟩) hf
noncomputable def tPar(i j:Nat)(ta:TA):TS:=fun D σ H=>ta σ H fun vs H1=>∃ v w,vs=[v,w]/\D.nx ((σ.set i (some v)).set j (some w)) H1
theorem ps_par{i j:Nat}{x y:Str}{a b:Expr}{ta:TA}{px py pt:Pos}{kt k2 pt2}(hc:X.calm=true)(hN:X.N.Nodup)(hi:X.N[i]?=some x)(hj:X.N[j]?=some y)(hij:i≠j)
  (hx:X.env.scope.names.lookup x=some .local) (hy:X.env.scope.names.lookup y=some .local) (ha:PA X [a,b] ta)
  (hw:swappedStores [.Tuple [.Name x px,.Name y py] kt pt] (.Tuple [a,b] k2 pt2) X.env=pure (some [x,y]))
  (hs:swapsWithSole [.Tuple [.Name x px,.Name y py] kt pt] (.Tuple [a,b] k2 pt2) pos.line X.env=pure false:=by rfl) :
  PS X (.Assign [.Tuple [.Name x px,.Name y py] kt pt] (.Tuple [a,b] k2 pt2) pos) (tPar i j ta):=by
 intro pins s σ H D I h
 rw[exec_Assign_arm]
 refine wpAny_bind (wpAny_standAt ?_)
 rw[hs]
 refine wpAny_bind (wpAny_pure ?_)
 rw[if_neg (by decide)]
 refine wpAny_bind (Tuple_ (thn (ha _ pins s σ H _ I h) fun us s1 ⟨vs,H1,I1,r1,q1⟩=>?_))
 obtain⟨v,w,e1,q1⟩:=q1
 subst e1
 obtain⟨u1,u2,rfl,rv,rw'⟩:∃ u1 u2,us=[u1,u2]/\RelV v u1/\RelV w u2:=by
  cases r1 with
  |cons p q =>
   cases q with
   |cons p' q' =>
    cases q'
    exact⟨_,_,rfl,p,p'⟩
 refine wpAny_newObj_type ?_ (by show 2<=sizeLine;decide)
 have I2:Inv X pins σ H1 { s1 with heap:=s1.heap.push { cls:=.type "tuple",data:=.seq [u1,u2].toArray } }:=I1.kept (t':=s1.toks) fun b o e=>Heap.get?_push_of_some _ e
 rw[hw]
 refine wpAny_bind (wpAny_pure ?_)
 show wpAny (model X.prog X.w) X.A (do rule "assign.swapped-stores";let items <- unpackItems (.ref s1.heap.objs.size) 2 none;assignInOrder [fun v=>bindName X.env y v,fun v=>bindName X.env x v] items.reverse;pure Flow.next) _ _ _
 refine wpAny_bind (wpAny_rule (wpAny_bind (unpackItems_tuple (items:=#[u1,u2]) (I.ok.hd hc) (IsTup.new s1.heap _) fun h' hx'=>?_)))
 have I3:=I2.kept (h':=h') (t':=s1.toks) fun b o e=>hx' b o (Nat.ne_of_lt (Heap.lt_size e)) e
 show wpAny _ _ (assignInOrder [fun v=>bindName X.env y v,fun v=>bindName X.env x v] [u2,u1] >>= fun _=>pure Flow.next) _ _ _
 refine wpAny_bind (assignInOrder_cons (wpAny_bindName (store_ok I3 hN hj (.inl hy) rw' (fun s2 I4=>?_) (.inr hy))))
 refine assignInOrder_cons (wpAny_bindName (store_ok I4 hN hi (.inl hx) rv (fun s3 I5=>assignInOrder_nil (wpAny_pure ?_)) (.inr hx)))
 rw[List.set_comm _ _ (Ne.symm hij)]at I5
 exact⟨_,H1,I5,q1⟩
end
section
variable{X:Cx}{pos:Pos}
noncomputable def tWhile(c:TT)(tb:TS):TS:=fun D σ H=>∃ W:Nat->St->Hp->Prop,(∃ m,W m σ H)/\∀ m σ H,W m σ H ->
 c σ H fun b H1=>if b=true then ∃ N:St->Hp->Prop,(∀ σ' H',N σ' H'->∃ m',m'<m/\W m' σ' H')/\tb { D with nx:=N,ct:=N,bk:=D.nx } σ H1 else D.nx σ H1
theorem ps_while{c:Expr}{body:List Stmt}{tc:TT}{tb:TS}(hp:PassesOwn (model X.prog X.w) X.A X.env X.xe)(hc:PT X c tc)(hb:PSs X body tb):PS X (.While c body [] pos) (tWhile tc tb):=by
 intro pins s σ H D I h
 obtain⟨W,⟨m0,w0⟩,turn⟩:=h
 refine wpAny_While (codeAny_whileLoop (fun n s'=>∃ σ' H',Inv X pins σ' H' s'/\W n σ' H') ?_ m0 ⟨σ,H,I,w0⟩)
 rintro n s1 ⟨σ1,H1,I1,w1⟩
 refine wpAny_passesOwn hp (thn (hc pins s1 σ1 H1 _ I1 (turn n σ1 H1 w1)) fun b s2 ⟨H2,I2,q2⟩=>?_)
 cases b with
 |true =>
  obtain⟨N,hN,q2⟩:=q2
  rw[if_pos rfl]
  refine wpAny_passesOwn hp (thn (hb pins s2 σ1 H2 _ I2 q2) fun f s3 q3=>?_)
  cases f with
  |next =>
   obtain⟨σ3,H3,I3,n3⟩:=q3
   obtain⟨m',hm,w3⟩:=hN σ3 H3 n3
   exact⟨m',hm,σ3,H3,I3,w3⟩
  |cont =>
   obtain⟨σ3,H3,I3,n3⟩:=q3
   obtain⟨m',hm,w3⟩:=hN σ3 H3 n3
   exact⟨m',hm,σ3,H3,I3,w3⟩
  |brk=>exact q3
  |ret v=>exact q3
 |false =>
  rw[if_neg Bool.false_ne_true]
  exact wpAny_execs_nil ⟨σ1,H2,I2,q2⟩
end
structure It where
 go:Nat->Hp->Prop
 yld:Nat->Hp->V->Hp->Prop
 stop:Nat->Hp->Prop
noncomputable def FpOk(X:Cx)(pins:List (Addr×Obj))(H:Hp)(b:Addr):Prop :=
 H b=none/\b≠X.env.locals/\b∉X.fs/\(b∈X.ex\/X.s₀.heap.objs.size<=b)/\(∀ x c,X.env.cells.lookup x=some c->c≠b)/\∀ p∈X.pn++pins,p.1≠b
theorem Inv.fpOk{X:Cx}{pins:List (Addr×Obj)}{σ:St}{H H':Hp}{s:Shared}{b:Addr}(I:Inv X pins σ H s)(hb:s.heap.objs.size<=b)(hn:H' b=none):FpOk X pins H' b:=by
 refine⟨hn,Nat.ne_of_gt (Nat.lt_of_lt_of_le I.lt hb),I.nofs hb,.inr (Nat.le_trans I.sz hb),fun x c e z=>?_,fun p hp z=>?_⟩
 ·obtain⟨v,q⟩:=I.cell x c e
  exact absurd (Nat.lt_of_lt_of_le q.lt (by rw[z];exact hb)) (Nat.lt_irrefl _)
 ·exact absurd (Nat.lt_of_lt_of_le (Heap.lt_size (I.pin p hp).1) (by rw[z];exact hb)) (Nat.lt_irrefl _)
structure Turn(P:Program)(w:World)(K:PySem.W.Frag)(tg:Expr)(J:It)(fp:List Addr)(it:Addr)(tn:Nat->Heap->Prop):Prop where
 mem:it∈fp
 obj:∀ i h,tn i h->∀ b∈fp,∃ o,h.get? b=some o/\∀ v,o.data≠.cell v
 keep:∀ i h h',tn i h->(∀ b∈fp,∀ o,h.get? b=some o->h'.get? b=some o)->tn i h'
 item:∀ (X:Cx),X.prog=P->X.w=w->X.K=K->X.calm=true->∀ (i:Nat) (pins:List (Addr×Obj)) (s:Shared) (σ:St) (H:Hp) (E:Value->Shared->Prop),Inv X pins σ H s->(∀ b∈fp,FpOk X pins H b)->tn i s.heap->J.go i H ->
  wpAny (model P w) X.A (pyNext (.ref it)) (fun r s1=>∃ u,r=some u /\
   wpAny (model P w) X.A (letOwnedTupleGo tg (.ref it) u) (fun _ s2=>∃ x H',Inv X pins σ H' s2/\RelV x u/\J.yld i H x H'/\tn (i+1) s2.heap/\∀ b∈fp,H' b=none) E s1) E s
 done:∀ (X:Cx),X.prog=P->X.w=w->X.K=K->X.calm=true->∀ (i:Nat) (pins:List (Addr×Obj)) (s:Shared) (σ:St) (H:Hp) (E:Value->Shared->Prop),Inv X pins σ H s->(∀ b∈fp,FpOk X pins H b)->tn i s.heap->J.stop i H ->
  wpAny (model P w) X.A (pyNext (.ref it)) (fun r s1=>r=none/\Inv X pins σ H s1) E s
 self:∀ (A:Around) (i:Nat) (s:Shared) (Q:Value->Shared->Prop) (E:Value->Shared->Prop),tn i s.heap->Q (.ref it) s->wpAny (model P w) A (pyIter (.ref it)) Q E s
noncomputable abbrev TI:=St->Hp->(It->Hp->Prop)->Prop
noncomputable def PIE(X:Cx)(pins:List (Addr×Obj))(σ:St)(tg:Expr)(R:It->Hp->Prop)(itv:Value)(s2:Shared):Prop :=
 ∃ (it:Addr) (fp:List Addr) (tn:Nat->Heap->Prop) (J:It) (H':Hp),itv = .ref it/\Inv X pins σ H' s2/\Turn X.prog X.w X.K tg J fp it tn/\tn 0 s2.heap/\(∀ b∈fp,FpOk X pins H' b)/\R J H'
noncomputable def PI(X:Cx)(tg iter:Expr)(wi:TI):Prop :=
 ∀ (pins:List (Addr×Obj)) (s:Shared) (σ:St) (H:Hp) (R:It->Hp->Prop),Inv X pins σ H s->wi σ H R ->
  wpAny (model X.prog X.w) X.A (eval iter X.env) (fun v s1=>wpAny (model X.prog X.w) X.A (pyIter v) (PIE X pins σ tg R) X.xe s1) X.xe s
theorem go_of {M : Model} {A : Around} {E : Value → Shared → Prop} {s : Shared} {tg : Expr} {it : Addr} {u : Value} {o : Obj} {n : String} {vs : Array Value} {Q : Unit → Shared → Prop} (ho : s.heap.get? it = some o) (hc : o.cls = .type n) (hd : o.data = .fields vs)
    (hn : ["enumerate", "zip", "dict_itemiterator", "dict_reverseitemiterator", "odict_iterator", "itertools.zip_longest", "itertools.pairwise"].contains n = false) (hQ : Q () s) : wpAny M A (letOwnedTupleGo tg (.ref it) u) Q E s := by
  unfold letOwnedTupleGo
  cases tg <;> first
    | exact wpAny_pure hQ
    | (cases u <;> first
        | exact wpAny_pure hQ
        | (refine wpAny_bind (wpAny_load ho ?_)
           rw [hc, hd]
           show wpAny M A (if (["enumerate", "zip", "dict_itemiterator", "dict_reverseitemiterator", "odict_iterator", "itertools.zip_longest", "itertools.pairwise"].contains n && vs[0]? == some (rawInt _)) = true then _ else _) Q E s
           rw [if_neg (by intro h; rw [hn, Bool.false_and] at h; cases h)]
           exact wpAny_pure hQ))
noncomputable def Itl(K:PySem.W.Frag)(a:Addr):It :=
 ⟨fun i H=>∃ xs x,SqL K H a xs/\xs[i]?=some x,fun i H x H'=>H'=H/\∀ xs,SqL K H a xs->xs[i]?=some x,fun i H=>∃ xs,SqL K H a xs/\xs.length<=i⟩
noncomputable def Itt(K:PySem.W.Frag)(a:Addr):It :=
 ⟨fun i H=>∃ xs x,SqT K H a xs/\xs[i]?=some x,fun i H x H'=>H'=H/\∀ xs,SqT K H a xs->xs[i]?=some x,fun i H=>∃ xs,SqT K H a xs/\xs.length<=i⟩
noncomputable def Itr(lo:Int)(n:Nat):It:=⟨fun i _=>i<n,fun i H x H'=>H'=H/\x = .int (lo+i),fun i _=>n<=i⟩
theorem turn_list{P:Program}{w:World}{K:PySem.W.Frag}{tg:Expr}(a it:Addr):Turn P w K tg (Itl K a) [it] it (fun i h=>h.IsListIter it a i)where
 mem:=by simp
 obj:=fun i h st b hb=>by
  have e:b=it:=by simpa using hb
  subst e
  obtain⟨o,e,c,d⟩:=st
  exact⟨o,e,fun v z=>by rw[d]at z;cases z⟩
 keep:=fun i h h' st k=>st.at fun o e=>k it (by simp) o e
 item:=by
  intro X hP hw hK hc i pins s σ H E I hf st hg
  subst hP hw hK
  obtain⟨xs,x,hq,hx⟩:=hg
  obtain⟨its,rv,p,hz⟩:=I.list hq
  obtain⟨u,hu,ru⟩:=rv.get hx
  obtain⟨f0,f1,f2,f3,f4,f5⟩:=hf it (by simp)
  refine wpAny_pyNext_list_item st p.isList (x:=u) (by simpa using hu) fun h' st' sb=>?_
  have I1:Inv X pins σ H { s with heap:=h' }:=I.turned (t':=s.toks) (fun b o hb e=>(sb.2 b hb).trans e) f0 f1 f3 f4 f5
  obtain⟨o,e,c,d⟩:=id st'
  exact⟨u,rfl,go_of (s:={ s with heap:=h' }) e c d (by decide) ⟨x,H,I1,ru,⟨rfl,fun ys hy=>by rw[I.list_inj hy hq];exact hx⟩,st',fun b hb=>(hf b hb).1⟩⟩
 done:=by
  intro X hP hw hK hc i pins s σ H E I hf st hg
  subst hP hw hK
  obtain⟨xs,hq,hx⟩:=hg
  obtain⟨its,rv,p,hz⟩:=I.list hq
  obtain⟨f0,f1,f2,f3,f4,f5⟩:=hf it (by simp)
  have hl:=rv.length
  exact wpAny_pyNext_list_end (I.ok.hd hc) st p.isList (by simp;lia) fun h' eb=>⟨rfl,I.turned (t':=s.toks) (fun b o hb e=>eb b o hb e) f0 f1 f3 f4 f5⟩
 self:=fun _ _ _ _ _ st h=>wpAny_pyIter_listiter st h
theorem turn_tuple{P:Program}{w:World}{K:PySem.W.Frag}{tg:Expr}(a it:Addr):Turn P w K tg (Itt K a) [it] it (fun i h=>h.IsTupleIter it a i)where
 mem:=by simp
 obj:=fun i h st b hb=>by
  have e:b=it:=by simpa using hb
  subst e
  obtain⟨o,e,c,d⟩:=st
  exact⟨o,e,fun v z=>by rw[d]at z;cases z⟩
 keep:=fun i h h' st k=>st.at fun o e=>k it (by simp) o e
 item:=by
  intro X hP hw hK hc i pins s σ H E I hf st hg
  subst hP hw hK
  obtain⟨xs,x,hq,hx⟩:=hg
  obtain⟨its,rv,p,hz⟩:=I.tuple hq
  obtain⟨u,hu,ru⟩:=rv.get hx
  obtain⟨f0,f1,f2,f3,f4,f5⟩:=hf it (by simp)
  refine wpAny_pyNext_tuple_item st (show s.heap.IsTuple a its.toArray from p) (x:=u) (by simpa using hu) fun h' st' sb=>?_
  have I1:Inv X pins σ H { s with heap:=h' }:=I.turned (t':=s.toks) (fun b o hb e=>(sb.2 b hb).trans e) f0 f1 f3 f4 f5
  obtain⟨o,e,c,d⟩:=id st'
  exact⟨u,rfl,go_of (s:={ s with heap:=h' }) e c d (by decide) ⟨x,H,I1,ru,⟨rfl,fun ys hy=>by rw[I.tuple_inj hy hq];exact hx⟩,st',fun b hb=>(hf b hb).1⟩⟩
 done:=by
  intro X hP hw hK hc i pins s σ H E I hf st hg
  subst hP hw hK
  obtain⟨xs,hq,hx⟩:=hg
  obtain⟨its,rv,p,hz⟩:=I.tuple hq
  obtain⟨f0,f1,f2,f3,f4,f5⟩:=hf it (by simp)
  have hl:=rv.length
  exact wpAny_pyNext_tuple_end (I.ok.hd hc) st (show s.heap.IsTuple a its.toArray from p) (by simp;lia) fun h' eb=>⟨rfl,I.turned (t':=s.toks) (fun b o hb e=>eb b o hb e) f0 f1 f3 f4 f5⟩
 self:=fun _ _ _ _ _ st h=>wpAny_pyIter_tupleiter st h
theorem turn_range{P:Program}{w:World}{K:PySem.W.Frag}{tg:Expr}(it:Addr)(lo:Int)(n:Nat):Turn P w K tg (Itr lo n) [it] it (fun i h=>IsRangeIter h it (lo+(i:Nat) * 1) ((n:Int)-(i:Nat)) 1)where
 mem:=by simp
 obj:=fun i h st b hb=>by
  have e:b=it:=by simpa using hb
  subst e
  exact⟨_,st,fun v z=>by
   have z':Data.fields _=Data.cell v:=z
   cases z'⟩
 keep:=fun i h h' st k=>k it (by simp) _ st
 item:=by
  intro X hP hw hK hc i pins s σ H E I hf st hg
  subst hP hw hK
  obtain⟨f0,f1,f2,f3,f4,f5⟩:=hf it (by simp)
  have W:=Walks.range (prog:=X.prog) (w:=X.w) (I.ok.hd hc) it lo 1 n
  refine W.item i s _ _ hg st fun v h' tk hv st' kk=>?_
  obtain⟨t,rfl⟩:=hv
  have I1:Inv X pins σ H { s with heap:=h',toks:=tk }:=I.turned (fun b o hb e=>kk b o (by simpa using hb) e) f0 f1 f3 f4 f5
  refine⟨_,rfl,go_of (s:={ s with heap:=h',toks:=tk }) (n:="range_iterator") st' rfl rfl (by decide) ⟨.int (lo+i),H,I1,⟨t,?_⟩,⟨rfl,rfl⟩,st',fun b hb=>(hf b hb).1⟩⟩
  rw[Int.mul_one]
 done:=by
  intro X hP hw hK hc i pins s σ H E I hf st hg
  subst hP hw hK
  obtain⟨f0,f1,f2,f3,f4,f5⟩:=hf it (by simp)
  exact wpAny_pyNext_range_end (I.ok.hd hc) st (by have:n<=i:=hg;lia) fun h' eb=>⟨rfl,I.turned (t':=s.toks) (fun b o hb e=>eb b o hb e) f0 f1 f3 f4 f5⟩
 self:=fun _ _ _ _ _ st h=>wpAny_pyIter_rangeiter st h
open PySem PySem.Spec PyProof.Rows
section
variable{X:Cx}{tg:Expr}
inductive ExS(x:V)(S Q:Addr->Prop):Prop where
 |mk (a:Addr) (e:x = .ref a) (s:S a) (h:Q a)
noncomputable def iList(K:PySem.W.Frag)(tl:TE):TI:=fun σ H R=>tl σ H fun x H1=>ExS x (fun a=>∃ xs,SqL K H1 a xs) fun a=>R (Itl K a) H1
noncomputable def iTup(K:PySem.W.Frag)(tl:TE):TI:=fun σ H R=>tl σ H fun x H1=>ExS x (fun a=>∃ xs,SqT K H1 a xs) fun a=>R (Itt K a) H1
theorem pi_list{l:Expr}{tl:TE}(hl:PE X l tl):PI X tg l (iList X.K tl):=by
 intro pins s σ H R I h
 refine thn (hl pins s σ H _ I h) fun v s1 ⟨x,H1,I1,r1,q1⟩=>?_
 obtain⟨a,e,⟨xs,hq⟩,q⟩:=q1
 subst e
 cases r1
 obtain⟨its,rv,p,hz⟩:=I1.list hq
 refine wpAny_pyIter_list p.isList ?_
 refine⟨s1.heap.objs.size,[s1.heap.objs.size],_,_,H1,rfl,I1.kept (t':=s1.toks) fun b o e=>Heap.get?_push_of_some _ e,turn_list a _,⟨_,Heap.get?_push_size _ rfl,rfl,rfl⟩,fun b hb=>?_,q⟩
 have e:b=s1.heap.objs.size:=by simpa using hb
 subst e
 exact I1.fpOk (Nat.le_refl _) (I1.hok.fresh (Nat.le_refl _))
theorem pi_tup{l:Expr}{tl:TE}(hl:PE X l tl):PI X tg l (iTup X.K tl):=by
 intro pins s σ H R I h
 refine thn (hl pins s σ H _ I h) fun v s1 ⟨x,H1,I1,r1,q1⟩=>?_
 obtain⟨a,e,⟨xs,hq⟩,q⟩:=q1
 subst e
 cases r1
 obtain⟨its,rv,p,hz⟩:=I1.tuple hq
 refine wpAny_pyIter_tuple (show s1.heap.IsTuple a its.toArray from p) ?_
 refine⟨s1.heap.objs.size,[s1.heap.objs.size],_,_,H1,rfl,I1.kept (t':=s1.toks) fun b o e=>Heap.get?_push_of_some _ e,turn_tuple a _,⟨_,Heap.get?_push_size _ rfl,rfl,rfl⟩,fun b hb=>?_,q⟩
 have e:b=s1.heap.objs.size:=by simpa using hb
 subst e
 exact I1.fpOk (Nat.le_refl _) (I1.hok.fresh (Nat.le_refl _))
theorem range_it{pins:List (Addr×Obj)}{σ:St}{H:Hp}{s:Shared}{R:It->Hp->Prop}{E:Value->Shared->Prop}{lo hi:Int}{t u v:Tok}{tk:Nat}(I:Inv X pins σ H s)(h1:-(2 ^ 62)<=lo)(h2:lo<2 ^ 62)(h3:-(2 ^ 62)<=hi)(h4:hi<2 ^ 62)
  (q:R (Itr lo (hi-lo).toNat) H):wpAny (model X.prog X.w) X.A (pyIter (.ref s.heap.objs.size)) (PIE X pins σ tg R) E { s with heap:=s.heap.push { cls:=.type "range",data:=.fields #[.int lo t,.int hi u,.int 1 v] },toks:=tk }:=by
 refine wpAny_pyIter_range (IsRange.new ..) (small_one h1 h2 h3 h4) ?_
 have I1:Inv X pins σ H { s with heap:=s.heap.push { cls:=.type "range",data:=.fields #[.int lo t,.int hi u,.int 1 v] },toks:=tk }:=I.kept fun b o e=>Heap.get?_push_of_some _ e
 refine⟨(s.heap.push { cls:=.type "range",data:=.fields #[.int lo t,.int hi u,.int 1 v] }).objs.size,[(s.heap.push { cls:=.type "range",data:=.fields #[.int lo t,.int hi u,.int 1 v] }).objs.size],_,_,H,rfl,
  I1.kept (t':=tk) fun b o e=>Heap.get?_push_of_some _ e,turn_range _ lo (hi-lo).toNat,?_,fun b hb=>?_,q⟩
 ·have e1:lo+((0:Nat):Int) * 1=lo:=by simp
  have e2:(((hi-lo).toNat:Nat):Int)-((0:Nat):Int)=Builtin.Range.rangeSize lo hi 1:=by rw[rangeSize_one];split <;> lia
  show IsRangeIter _ _ (lo+((0:Nat):Int) * 1) ((((hi-lo).toNat:Nat):Int)-((0:Nat):Int)) 1
  rw[e1,e2]
  exact Heap.get?_push_size _ rfl
 ·have e:b=(s.heap.push { cls:=.type "range",data:=.fields #[.int lo t,.int hi u,.int 1 v] }).objs.size:=by simpa using hb
  subst e
  exact I1.fpOk (Nat.le_refl _) (I1.hok.fresh (Nat.le_refl _))
noncomputable def iRng1(ta:TA):TI:=fun σ H R=>ta σ H fun vs H1=>∃ j:Int,vs=[.int j]/\-(2 ^ 62)<=j/\j<2 ^ 62/\R (Itr 0 j.toNat) H1
noncomputable def iRng2(ta:TA):TI:=fun σ H R=>ta σ H fun vs H1=>∃ i j:Int,vs=[.int i,.int j]/\(-(2 ^ 62)<=i/\i<2 ^ 62/\-(2 ^ 62)<=j/\j<2 ^ 62)/\R (Itr i (j-i).toNat) H1
theorem pi_range1{a:Expr}{ta:TA}{p pos:Pos}(hg:Gl X "range")(hm:X.mg "range" = none)(ha:PA X [a] ta)(hs:starEach [a] X.env=[(false,eval a X.env)]:=by rfl):PI X tg (.Call (.Name "range" p) [a] [] pos) (iRng1 ta):=by
 intro pins s σ H R I h
 refine Call_ (ld_blt I hg hm boot_range (PyProof.Rows.callWith_type1 (thn (ha pos pins s σ H _ I h) fun us s1 ⟨vs,H1,I1,r1,q1⟩=>?_) hs rfl))
 obtain⟨j,e,q1,q2,q⟩:=q1
 subst e
 cases r1 with
 |cons r rr =>
  cases rr
  obtain⟨t,rfl⟩:=r
  exact call_range_1 (range_it I1 (by lia) (by lia) q1 q2 (by simpa using q))
theorem pi_range2{a b:Expr}{ta:TA}{p pos:Pos}(hg:Gl X "range")(hm:X.mg "range" = none)(ha:PA X [a,b] ta)(hs:starEach [a,b] X.env=[(false,eval a X.env),(false,eval b X.env)]:=by rfl)(hs2:starEach [b] X.env=[(false,eval b X.env)]:=by rfl) :
  PI X tg (.Call (.Name "range" p) [a,b] [] pos) (iRng2 ta):=by
 intro pins s σ H R I h
 refine Call_ (ld_blt I hg hm boot_range (PyProof.Rows.callWith_type1 (thn (ha pos pins s σ H _ I h) fun us s1 ⟨vs,H1,I1,r1,q1⟩=>?_) (by rw[hs,hs2]) (by rw[hs2];rfl)))
 obtain⟨i,j,e,⟨q1,q2,q3,q4⟩,q⟩:=q1
 subst e
 cases r1 with
 |cons r rr =>
  cases rr with
  |cons r' rr =>
   cases rr
   obtain⟨t,rfl⟩:=r
   obtain⟨t',rfl⟩:=r'
   exact call_range_2 (range_it I1 q1 q2 q3 q4 q)
noncomputable def tFor(wi:TI)(g:TG)(tb:TS):TS:=fun D σ H=>wi σ H fun J H1=>∃ W:Nat->Nat->St->Hp->Prop,(∃ m,W 0 m σ H1)/\∀ i m σ H,W i m σ H ->
 (J.stop i H/\D.nx σ H)\/(J.go i H/\∃ N:St->Hp->Prop,(∀ σ' H',N σ' H'->∃ m',m'<m/\W (i+1) m' σ' H')/\∀ x H',J.yld i H x H'->g x σ H' fun σ2 H2=>tb { D with nx:=N,ct:=N,bk:=D.nx } σ2 H2)
noncomputable def pinsAt(fp:List Addr)(h:Heap):List (Addr×Obj):=fp.filterMap fun b=>(h.get? b).map fun o=>(b,o)
theorem mem_pinsAt{fp:List Addr}{h:Heap}{b:Addr}{o:Obj}(hb:b∈fp)(e:h.get? b=some o):(b,o)∈pinsAt fp h:=List.mem_filterMap.mpr ⟨b,hb,by rw[e];rfl⟩
theorem of_pinsAt{fp:List Addr}{h:Heap}{p:Addr×Obj}(hp:p∈pinsAt fp h):p.1∈fp/\h.get? p.1=some p.2:=by
 obtain⟨b,hb,e⟩:=List.mem_filterMap.mp hp
 cases q:h.get? b with
 |none=>rw[q]at e;cases e
 |some o =>
  rw[q]at e
  have e':(b,o)=p:=Option.some.inj e
  subst e'
  exact⟨hb,q⟩
theorem Inv.pinned{pins:List (Addr×Obj)}{σ:St}{H:Hp}{s:Shared}{fp:List Addr}(I:Inv X pins σ H s)(hf:∀ b∈fp,FpOk X pins H b)(ho:∀ b∈fp,∃ o,s.heap.get? b=some o/\∀ v,o.data≠.cell v):Inv X (pins++pinsAt fp s.heap) σ H s :=
 I.pins_of fun p hp=>(List.mem_append.mp hp).elim (fun z=>I.pin p (List.mem_append_right _ z)) fun z=>by
  obtain⟨hb,e⟩:=of_pinsAt z
  obtain⟨f0,f1,f2,_⟩:=hf p.1 hb
  obtain⟨o,e',d⟩:=ho p.1 hb
  rw[e]at e';cases e'
  exact⟨e,f0,f1,f2,d⟩
theorem Inv.unpinned{pins pl:List (Addr×Obj)}{σ:St}{H:Hp}{s:Shared}(I:Inv X (pins++pl) σ H s):Inv X pins σ H s:=I.pins_of fun p hp=>I.pin p (List.mem_append_right _ (List.mem_append_left _ hp))
theorem ps_for{iter:Expr}{body:List Stmt}{wi:TI}{g:TG}{tb:TS}{pos:Pos}(hp:PassesOwn (model X.prog X.w) X.A X.env X.xe)(hc:X.calm=true)(hi:PI X tg iter wi)(hg:PG X tg g)(hb:PSs X body tb)
  (hs:∀ x,foldedSetIterable iter X.env x=pure x:=by intro _;rfl):PS X (.For tg iter body [] pos) (tFor wi g tb):=by
 intro pins s σ H D I h
 refine wpAny_For (thn (hi pins s σ H _ I h) fun v s1 h1=>thn h1 fun itv s2 h2=>?_) hs
 obtain⟨it,fp,tn,J,H2,e,I2,T,st2,f2,W,⟨m0,w0⟩,turn⟩:=h2
 subst e
 -- what stays true of the iterator's objects through the loop
 have stat:∀ {H':Hp},(∀ b∈fp,H' b=none)->∀ b∈fp,FpOk X pins H' b:=fun hn b hb=>⟨hn b hb,(f2 b hb).2⟩
 refine codeAny_forLoop_any (fun n s'=>∃ i σ' H',Inv X pins σ' H' s'/\tn i s'.heap/\(∀ b∈fp,H' b=none)/\W i n σ' H') ?_ m0 ⟨0,σ,H2,I2,st2,fun b hb=>(f2 b hb).1,w0⟩
 rintro n s3 ⟨i,σ3,H3,I3,st3,fr3,w3⟩
 rcases turn i n σ3 H3 w3 with⟨stop,qn⟩ |⟨go,N,hN,step⟩
 ·refine wpAny_passesOwn hp (thn (T.done X rfl rfl rfl hc i pins s3 σ3 H3 X.xe I3 (stat fr3) st3 stop) fun r s4 ⟨hr,I4⟩=>?_)
  subst hr
  exact wpAny_execs_nil ⟨σ3,H3,I4,qn⟩
 ·refine wpAny_passesOwn hp (thn (T.item X rfl rfl rfl hc i pins s3 σ3 H3 X.xe I3 (stat fr3) st3 go) fun r s4 ⟨u,hr,h4⟩=>?_)
  subst hr
  refine wpAny_passesOwn hp (thn h4 fun _ s5 ⟨x,H5,I5,r5,y5,st5,fr5⟩=>?_)
  have I5':=I5.pinned (stat fr5) (T.obj _ _ st5)
  refine wpAny_passesOwn hp (thn (hg _ s5 σ3 H5 x u _ I5' r5 (step x H5 y5)) fun _ s6 ⟨σ6,H6,I6,q6⟩=>?_)
  refine wpAny_passesOwn hp (thn (hb _ s6 σ6 H6 _ I6 q6) fun f s7 q7=>?_)
  have again:∀ {σ7:St}{H7:Hp},Inv X (pins++pinsAt fp s5.heap) σ7 H7 s7->N σ7 H7->∃ m,m<n/\∃ i σ' H',Inv X pins σ' H' s7/\tn i s7.heap/\(∀ b∈fp,H' b=none)/\W i m σ' H':=fun {σ7 H7} I7 n7=>by
   obtain⟨m',hm,w7⟩:=hN σ7 H7 n7
   refine⟨m',hm,i+1,σ7,H7,I7.unpinned,T.keep _ _ _ st5 fun b hb o e=>(I7.pin (b,o) (List.mem_append_right _ (List.mem_append_right _ (mem_pinsAt hb e)))).1,fun b hb=>?_,w7⟩
   obtain⟨o,e,d⟩:=T.obj _ _ st5 b hb
   exact(I7.pin (b,o) (List.mem_append_right _ (List.mem_append_right _ (mem_pinsAt hb e)))).2.1
  cases f with
  |next=>obtain⟨σ7,H7,I7,n7⟩:=q7;exact again I7 n7
  |cont=>obtain⟨σ7,H7,I7,n7⟩:=q7;exact again I7 n7
  |brk=>obtain⟨σ7,H7,I7,q7⟩:=q7;exact⟨σ7,H7,I7.unpinned,q7⟩
  |ret v=>obtain⟨x7,σ7,H7,I7,r7,q7⟩:=q7;exact⟨x7,σ7,H7,I7.unpinned,r7,q7⟩
end
theorem for_list{K:PySem.W.Frag}{a:Addr}{xs:List V}{g:TG}{tb:TS}{D:Ends}{σ:St}{H:Hp}(Pv:Nat->St->Hp->Prop)(h0:Pv 0 σ H)(hl:∀ i σ H,i<=xs.length->Pv i σ H->SqL K H a xs)
  (hs:∀ i x σ H,xs[i]?=some x->Pv i σ H->g x σ H fun σ2 H2=>tb { D with nx:=Pv (i+1),ct:=Pv (i+1),bk:=D.nx } σ2 H2) (hd:∀ σ H,Pv xs.length σ H->D.nx σ H) :
  ∃ W:Nat->Nat->St->Hp->Prop,(∃ m,W 0 m σ H)/\∀ i m σ H,W i m σ H ->
   ((Itl K a).stop i H/\D.nx σ H)\/((Itl K a).go i H/\∃ N:St->Hp->Prop,(∀ σ' H',N σ' H'->∃ m',m'<m/\W (i+1) m' σ' H')/\∀ x H',(Itl K a).yld i H x H'->g x σ H' fun σ2 H2=>tb { D with nx:=N,ct:=N,bk:=D.nx } σ2 H2):=by
 refine⟨fun i m σ H=>m=xs.length-i/\i<=xs.length/\Pv i σ H,⟨xs.length,by simp,Nat.zero_le _,h0⟩,?_⟩
 rintro i m σ H ⟨rfl,hi,p⟩
 have q:=hl i σ H hi p
 by_cases hlt:i<xs.length
 ·refine .inr ⟨⟨xs,xs[i],q,by simp[hlt]⟩,Pv (i+1),fun σ' H' p'=>⟨xs.length-(i+1),by omega,rfl,hlt,p'⟩,fun x H' y=>?_⟩
  obtain⟨e,y⟩:=y
  subst e
  exact hs i x σ _ (y xs q) p
 ·have e:i=xs.length:=by lia
  subst e
  exact .inl ⟨⟨xs,q,Nat.le_refl _⟩,hd σ H p⟩
theorem for_tup{K:PySem.W.Frag}{a:Addr}{xs:List V}{g:TG}{tb:TS}{D:Ends}{σ:St}{H:Hp}(Pv:Nat->St->Hp->Prop)(h0:Pv 0 σ H)(hl:∀ i σ H,i<=xs.length->Pv i σ H->SqT K H a xs)
  (hs:∀ i x σ H,xs[i]?=some x->Pv i σ H->g x σ H fun σ2 H2=>tb { D with nx:=Pv (i+1),ct:=Pv (i+1),bk:=D.nx } σ2 H2) (hd:∀ σ H,Pv xs.length σ H->D.nx σ H) :
  ∃ W:Nat->Nat->St->Hp->Prop,(∃ m,W 0 m σ H)/\∀ i m σ H,W i m σ H ->
   ((Itt K a).stop i H/\D.nx σ H)\/((Itt K a).go i H/\∃ N:St->Hp->Prop,(∀ σ' H',N σ' H'->∃ m',m'<m/\W (i+1) m' σ' H')/\∀ x H',(Itt K a).yld i H x H'->g x σ H' fun σ2 H2=>tb { D with nx:=N,ct:=N,bk:=D.nx } σ2 H2):=by
 refine⟨fun i m σ H=>m=xs.length-i/\i<=xs.length/\Pv i σ H,⟨xs.length,by simp,Nat.zero_le _,h0⟩,?_⟩
 rintro i m σ H ⟨rfl,hi,p⟩
 have q:=hl i σ H hi p
 by_cases hlt:i<xs.length
 ·refine .inr ⟨⟨xs,xs[i],q,by simp[hlt]⟩,Pv (i+1),fun σ' H' p'=>⟨xs.length-(i+1),by omega,rfl,hlt,p'⟩,fun x H' y=>?_⟩
  obtain⟨e,y⟩:=y
  subst e
  exact hs i x σ _ (y xs q) p
 ·have e:i=xs.length:=by lia
  subst e
  exact .inl ⟨⟨xs,q,Nat.le_refl _⟩,hd σ H p⟩
theorem for_range{lo:Int}{n:Nat}{g:TG}{tb:TS}{D:Ends}{σ:St}{H:Hp}(Pv:Nat->St->Hp->Prop)(h0:Pv 0 σ H)
  (hs:∀ i σ H,i<n->Pv i σ H->g (.int (lo+i)) σ H fun σ2 H2=>tb { D with nx:=Pv (i+1),ct:=Pv (i+1),bk:=D.nx } σ2 H2) (hd:∀ σ H,Pv n σ H->D.nx σ H) :
  ∃ W:Nat->Nat->St->Hp->Prop,(∃ m,W 0 m σ H)/\∀ i m σ H,W i m σ H ->
   ((Itr lo n).stop i H/\D.nx σ H)\/((Itr lo n).go i H/\∃ N:St->Hp->Prop,(∀ σ' H',N σ' H'->∃ m',m'<m/\W (i+1) m' σ' H')/\∀ x H',(Itr lo n).yld i H x H'->g x σ H' fun σ2 H2=>tb { D with nx:=N,ct:=N,bk:=D.nx } σ2 H2):=by
 refine⟨fun i m σ H=>m=n-i/\i<=n/\Pv i σ H,⟨n,by simp,Nat.zero_le _,h0⟩,?_⟩
 rintro i m σ H ⟨rfl,hi,p⟩
 by_cases hlt:i<n
 ·refine .inr ⟨hlt,Pv (i+1),fun σ' H' p'=>⟨n-(i+1),by omega,rfl,hlt,p'⟩,fun x H' y=>?_⟩
  obtain⟨e,y⟩:=y
  subst e y
  exact hs i σ _ hlt p
 ·have e:i=n:=by lia
  subst e
  exact .inl ⟨Nat.le_refl _,hd σ H p⟩
open PySem PySem.Spec PyProof.Rows
noncomputable abbrev R2:=V->V->Hp->VK->Prop
noncomputable def OpR(X:Cx)(f:Value->Value->Sem Value)(r:R2):Prop :=
 ∀ (pins:List (Addr×Obj)) (s:Shared) (σ:St) (H:Hp) (x y:V) (v u:Value) (Q:VK),Inv X pins σ H s->RelV x v->RelV y u->r x y H Q ->
  wpAny (model X.prog X.w) X.A (f v u) (EP X pins σ Q) X.xe s
noncomputable def UnR(X:Cx)(f:Value->Sem Value)(r:V->Hp->VK->Prop):Prop :=
 ∀ (pins:List (Addr×Obj)) (s:Shared) (σ:St) (H:Hp) (x:V) (v:Value) (Q:VK),Inv X pins σ H s->RelV x v->r x H Q ->
  wpAny (model X.prog X.w) X.A (f v) (EP X pins σ Q) X.xe s
noncomputable def CallR(X:Cx)(f:Value)(r:List V->Hp->VK->Prop):Prop :=
 ∀ (pins:List (Addr×Obj)) (s:Shared) (σ:St) (H:Hp) (xs:List V) (us:List Value) (Q:VK),Inv X pins σ H s->Vals xs us->r xs H Q ->
  wpAny (model X.prog X.w) X.A (call f us) (EP X pins σ Q) X.xe s
noncomputable def TruR(X:Cx)(r:V->Hp->(Bool->Hp->Prop)->Prop):Prop :=
 ∀ (pins:List (Addr×Obj)) (s:Shared) (σ:St) (H:Hp) (x:V) (v:Value) (Q:Bool->Hp->Prop),Inv X pins σ H s->RelV x v->r x H Q ->
  wpAny (model X.prog X.w) X.A (truthy v) (TP X pins σ Q) X.xe s
noncomputable def tOp(r:R2)(ta tb:TE):TE:=fun σ H Q=>ta σ H fun x H1=>tb σ H1 fun y H2=>r x y H2 Q
noncomputable def tUn(r:V->Hp->VK->Prop)(ta:TE):TE:=fun σ H Q=>ta σ H fun x H1=>r x H1 Q
inductive rII(C:Int->Int->Prop)(g:Int->Int->V)(x:V)(y:V)(H:Hp)(Q:VK):Prop where
 |mk (i:_) (j:_) (h1:x = .int i) (h2:y = .int j) (h3:C i j) (h4:Q (g i j) H)
noncomputable def rI(C:Int->Int->Prop)(g:Int->Int->V):R2:=fun x y H Q=>rII C g x y H Q
inductive rI0I(g:Int->Int->V)(x:V)(y:V)(H:Hp)(Q:VK):Prop where
 |mk (i:_) (j:_) (h1:x = .int i) (h2:y = .int j) (h3:Q (g i j) H)
noncomputable def rI0(g:Int->Int->V):R2:=fun x y H Q=>rI0I g x y H Q
inductive rUI(g:Int->V)(x:V)(H:Hp)(Q:VK):Prop where
 |mk (i:_) (h1:x = .int i) (h2:Q (g i) H)
noncomputable def rU(g:Int->V):V->Hp->VK->Prop:=fun x H Q=>rUI g x H Q
section
variable{X:Cx}{a b c:Expr}{ta tb tc:TE}{pos:Pos}
theorem binT(ha:PE X a ta)(hb:PE X b tb){pins:List (Addr×Obj)}{s:Shared}{σ:St}{H:Hp}{R:V->V->Hp->Prop}(I:Inv X pins σ H s)
  (h:ta σ H fun x H1=>tb σ H1 fun y H2=>R x y H2) {Q:Value->Shared->Prop}{f:Value->Value->Sem Value}
  (hf:∀ v u s2 x y H2,Inv X pins σ H2 s2->RelV x v->RelV y u->R x y H2->wpAny (model X.prog X.w) X.A (f v u) Q X.xe s2) :
  wpAny (model X.prog X.w) X.A (eval a X.env) (fun v s₁=>wpAny (model X.prog X.w) X.A (eval b X.env) (fun u s₂=>wpAny (model X.prog X.w) X.A (f v u) Q X.xe s₂) X.xe s₁) X.xe s:=by
 refine thn (ha pins s σ H _ I h) fun v s1 ⟨x,H1,I1,r1,q1⟩=>?_
 refine thn (hb pins s1 σ H1 _ I1 q1) fun u s2 ⟨y,H2,I2,r2,q2⟩=>?_
 exact hf v u s2 x y H2 I2 r1 r2 q2
theorem pe_op{op:Operator}{r:R2}(ho:OpR X (binaryOp op) r)(ha:PE X a ta)(hb:PE X b tb):PE X (.BinOp a op b pos) (tOp r ta tb):=by
 intro pins s σ H Q I h
 exact wpAny_BinOp (binT ha hb I h fun v u s2 x y H2 I2 rx ry q=>ho pins s2 σ H2 x y v u Q I2 rx ry q)
theorem pe_un{op:UnaryOp}{r:V->Hp->VK->Prop}(ho:UnR X (unaryOp op) r)(ha:PE X a ta):PE X (.UnaryOp op a pos) (tUn r ta):=by
 intro pins s σ H Q I h
 exact UnaryOp_ (thn (ha pins s σ H _ I h) fun v s1 ⟨x,H1,I1,r1,q1⟩=>ho pins s1 σ H1 x v Q I1 r1 q1)
theorem opI{f:Value->Value->Sem Value}{C:Int->Int->Prop}{g:Int->Int->Int}
  (rule:∀ (i j:Int) (t u:Tok) (s:Shared) (Q:Value->Shared->Prop) (E:Value->Shared->Prop),C i j->Q (.int (g i j) s.toks) { s with toks:=s.toks+1 }->wpAny (model X.prog X.w) X.A (f (.int i t) (.int j u)) Q E s) :
  OpR X f (rI C fun i j=>.int (g i j)):=by
 intro pins s σ H x y v u Q I rx ry h
 obtain⟨i,j,rfl,rfl,hc,q⟩:=h
 obtain⟨t,rfl⟩:=rx
 obtain⟨t',rfl⟩:=ry
 exact rule i j t t' s _ _ hc ⟨.int (g i j),H,I.tok _,⟨_,rfl⟩,q⟩
theorem opI0{f:Value->Value->Sem Value}{g:Int->Int->Int}
  (rule:∀ (i j:Int) (t u:Tok) (s:Shared) (Q:Value->Shared->Prop) (E:Value->Shared->Prop),Q (.int (g i j) s.toks) { s with toks:=s.toks+1 }->wpAny (model X.prog X.w) X.A (f (.int i t) (.int j u)) Q E s) :
  OpR X f (rI0 fun i j=>.int (g i j)):=by
 intro pins s σ H x y v u Q I rx ry h
 obtain⟨i,j,rfl,rfl,q⟩:=h
 obtain⟨t,rfl⟩:=rx
 obtain⟨t',rfl⟩:=ry
 exact rule i j t t' s _ _ ⟨.int (g i j),H,I.tok _,⟨_,rfl⟩,q⟩
theorem opB0{f:Value->Value->Sem Value}{g:Int->Int->Bool}
  (rule:∀ (i j:Int) (t u:Tok) (s:Shared) (Q:Value->Shared->Prop) (E:Value->Shared->Prop),Q (.bool (g i j)) s->wpAny (model X.prog X.w) X.A (f (.int i t) (.int j u)) Q E s) :
  OpR X f (rI0 fun i j=>.bl (g i j)):=by
 intro pins s σ H x y v u Q I rx ry h
 obtain⟨i,j,rfl,rfl,q⟩:=h
 obtain⟨t,rfl⟩:=rx
 obtain⟨t',rfl⟩:=ry
 exact rule i j t t' s _ _ ⟨.bl (g i j),H,I,rfl,q⟩
noncomputable def CDiv(i j:Int):Prop:=0<j/\j<1073741824
noncomputable def CPow(i j:Int):Prop:=0<=j/\j<=1000000/\i.natAbs<2 ^ 64
noncomputable def CMul(i j:Int):Prop:=(-(2 ^ 64)<i/\i<2 ^ 64)\/(-(2 ^ 64)<j/\j<2 ^ 64)
theorem CMul.ok{i j:Int}(h:CMul i j):IntMulOk i j:=by
 rcases h with⟨h1,h2⟩ |⟨h1,h2⟩
 ·exact .of_left (intBits_le_64 h1 h2)
 ·exact .of_right (intBits_le_64 h1 h2)
theorem op_add:OpR X (binaryOp .Add) (rI0 fun i j=>.int (i+j)):=opI0 fun _ _ _ _ _ _ _ q=>add_int q
theorem op_sub:OpR X (binaryOp .Sub) (rI0 fun i j=>.int (i-j)):=opI0 fun _ _ _ _ _ _ _ q=>sub_int q
theorem op_mul:OpR X (binaryOp .Mult) (rI CMul fun i j=>.int (i * j)):=opI fun _ _ _ _ _ _ _ hc q=>mul_int q hc.ok
theorem op_fdiv:OpR X (binaryOp .FloorDiv) (rI CDiv fun i j=>.int (i / j)):=opI fun i j _ _ _ _ _ hc q=>by
 have h1:(0:Int)<j:=hc.1
 have h2:j<1073741824:=hc.2
 exact floordiv_int (by lia) (by rw[Int.fdiv_eq_ediv_of_nonneg i (by lia)];exact q) (.inl (PyProof.noPylong_small (by omega)))
theorem op_mod:OpR X (binaryOp .Mod) (rI (fun _ j=>0<j) fun i j=>.int (i % j)):=opI fun i j _ _ _ _ _ hc q=>by
 have h1:(0:Int)<j:=hc
 exact mod_int' (by lia) (by rw[Int.fmod_eq_emod_of_nonneg i (by lia)];exact q)
theorem op_pow:OpR X (binaryOp .Pow) (rI CPow fun i j=>.int (i ^ j.toNat)):=opI fun _ _ _ _ _ _ _ hc q=>pow_int_small hc.1 hc.2.1 hc.2.2 q
theorem unI{f:Value->Sem Value}{g:Int->Int}
  (rule:∀ (i:Int) (t:Tok) (s:Shared) (Q:Value->Shared->Prop) (E:Value->Shared->Prop),Q (.int (g i) s.toks) { s with toks:=s.toks+1 }->wpAny (model X.prog X.w) X.A (f (.int i t)) Q E s) :
  UnR X f (rU fun i=>.int (g i)):=by
 intro pins s σ H x v Q I rx h
 obtain⟨i,rfl,q⟩:=h
 obtain⟨t,rfl⟩:=rx
 exact rule i t s _ _ ⟨.int (g i),H,I.tok _,⟨_,rfl⟩,q⟩
theorem un_neg:UnR X (unaryOp .USub) (rU fun i=>.int (-i)):=unI fun _ _ _ _ _ q=>neg_int q
end
noncomputable def scal:V->V->Bool
 | .non,.non=>true | .non,.int _=>true | .int _,.non=>true | .non,.bl _=>true | .bl _,.non=>true | .non,.str _=>true | .str _,.non=>true
 | .int _,.int _=>true | .bl _,.bl _=>true | .str _,.str _=>true | .byt _,.byt _=>true
 | .int _,.str _=>true | .str _,.int _=>true | .bl _,.str _=>true | .str _,.bl _=>true
 | _,_=>false
noncomputable def rEq:R2:=fun x y H Q=>scal x y=true/\Q (.bl (decide (x=y))) H
noncomputable def rNe:R2:=fun x y H Q=>scal x y=true/\Q (.bl (!decide (x=y))) H
theorem dec_int{i j:Int}:decide (V.int i=V.int j)=(i == j):=by
 rw[Bool.eq_iff_iff]
 simp
theorem dec_bl{i j:Bool}:decide (V.bl i=V.bl j)=(i == j):=by
 rw[Bool.eq_iff_iff]
 simp
theorem dec_str{i j:Str}:decide (V.str i=V.str j)=(i == j):=by
 rw[Bool.eq_iff_iff]
 simp
theorem dec_byt{i j:Array UInt8}:decide (V.byt i=V.byt j)=(i.toList == j.toList):=by
 rw[Bool.eq_iff_iff]
 cases i
 cases j
 simp
section
variable{X:Cx}{a b c:Expr}{ta tb tc:TE}{pos:Pos}
theorem fin_bl{pins:List (Addr×Obj)}{σ:St}{H:Hp}{s:Shared}{Q:VK}{k k':Bool}(I:Inv X pins σ H s)(q:Q (.bl k) H)(e:k=k'):EP X pins σ Q (.bool k') s:=by
 subst e
 exact⟨.bl k,H,I,rfl,q⟩
theorem op_eq:OpR X (compareOp .Eq) rEq:=by
 intro pins s σ H x y v u Q I rx ry h
 obtain⟨hs,q⟩:=h
 cases x with
 |non =>
  cases rx
  cases y with
  |non=>cases ry;exact PySem.EqNone.eq_none_none (fin_bl I q (by simp))
  |bl j=>cases ry;exact PySem.EqNone.eq_none_bool (fin_bl I q (by simp))
  |int j=>obtain⟨t',rfl⟩:=ry;exact PySem.EqNone.eq_none_int (fin_bl I q (by simp))
  |str j=>obtain⟨t',rfl⟩:=ry;exact PySem.EqNone.eq_none_str (fin_bl I q (by simp))
  | _=>exact absurd (show false=true from hs) Bool.false_ne_true
 |bl i =>
  cases rx
  cases y with
  |non=>cases ry;exact PySem.EqNone.eq_bool_none (fin_bl I q (by simp))
  |bl j=>cases ry;exact eq_bool (fin_bl I q dec_bl)
  |str j=>obtain⟨t',rfl⟩:=ry;exact PySem.EqMixed.eq_bool_str (fin_bl I q (by simp))
  | _=>exact absurd (show false=true from hs) Bool.false_ne_true
 |int i =>
  obtain⟨t,rfl⟩:=rx
  cases y with
  |non=>cases ry;exact PySem.EqNone.eq_int_none (fin_bl I q (by simp))
  |int j=>obtain⟨t',rfl⟩:=ry;exact eq_int (fin_bl I q dec_int)
  |str j=>obtain⟨t',rfl⟩:=ry;exact PySem.EqMixed.eq_int_str (fin_bl I q (by simp))
  | _=>exact absurd (show false=true from hs) Bool.false_ne_true
 |str i =>
  obtain⟨t,rfl⟩:=rx
  cases y with
  |non=>cases ry;exact PySem.EqNone.eq_str_none (fin_bl I q (by simp))
  |bl j=>cases ry;exact PySem.EqMixed.eq_str_bool (fin_bl I q (by simp))
  |int j=>obtain⟨t',rfl⟩:=ry;exact PySem.EqMixed.eq_str_int (fin_bl I q (by simp))
  |str j=>obtain⟨t',rfl⟩:=ry;exact eq_str (fin_bl I q dec_str)
  | _=>exact absurd (show false=true from hs) Bool.false_ne_true
 |byt i =>
  obtain⟨t,rfl⟩:=rx
  cases y with
  |byt j=>obtain⟨t',rfl⟩:=ry;exact PySem.W.eq_bytes (fin_bl I q dec_byt)
  | _=>exact absurd (show false=true from hs) Bool.false_ne_true
 | _=>cases y <;> exact absurd (show false=true from hs) Bool.false_ne_true
theorem op_ne:OpR X (compareOp .NotEq) rNe:=by
 intro pins s σ H x y v u Q I rx ry h
 obtain⟨hs,q⟩:=h
 cases x with
 |non =>
  cases rx
  cases y with
  |non=>cases ry;exact PySem.EqNone.ne_none_none (fin_bl I q (by simp))
  |bl j=>cases ry;exact PySem.EqNone.ne_none_bool (fin_bl I q (by simp))
  |int j=>obtain⟨t',rfl⟩:=ry;exact PySem.EqNone.ne_none_int (fin_bl I q (by simp))
  |str j=>obtain⟨t',rfl⟩:=ry;exact PySem.EqNone.ne_none_str (fin_bl I q (by simp))
  | _=>exact absurd (show false=true from hs) Bool.false_ne_true
 |bl i =>
  cases rx
  cases y with
  |non=>cases ry;exact PySem.EqNone.ne_bool_none (fin_bl I q (by simp))
  |bl j=>cases ry;exact ne_bool (fin_bl I q (congrArg not dec_bl))
  |str j=>obtain⟨t',rfl⟩:=ry;exact PySem.EqMixed.ne_bool_str (fin_bl I q (by simp))
  | _=>exact absurd (show false=true from hs) Bool.false_ne_true
 |int i =>
  obtain⟨t,rfl⟩:=rx
  cases y with
  |non=>cases ry;exact PySem.EqNone.ne_int_none (fin_bl I q (by simp))
  |int j=>obtain⟨t',rfl⟩:=ry;exact ne_int (fin_bl I q (congrArg not dec_int))
  |str j=>obtain⟨t',rfl⟩:=ry;exact PySem.EqMixed.ne_int_str (fin_bl I q (by simp))
  | _=>exact absurd (show false=true from hs) Bool.false_ne_true
 |str i =>
  obtain⟨t,rfl⟩:=rx
  cases y with
  |non=>cases ry;exact PySem.EqNone.ne_str_none (fin_bl I q (by simp))
  |bl j=>cases ry;exact PySem.EqMixed.ne_str_bool (fin_bl I q (by simp))
  |int j=>obtain⟨t',rfl⟩:=ry;exact PySem.EqMixed.ne_str_int (fin_bl I q (by simp))
  |str j=>obtain⟨t',rfl⟩:=ry;exact ne_str (fin_bl I q (congrArg not dec_str))
  | _=>exact absurd (show false=true from hs) Bool.false_ne_true
 |byt i =>
  obtain⟨t,rfl⟩:=rx
  cases y with
  |byt j=>obtain⟨t',rfl⟩:=ry;exact PySem.W.ne_bytes (fin_bl I q (congrArg not dec_byt))
  | _=>exact absurd (show false=true from hs) Bool.false_ne_true
 | _=>cases y <;> exact absurd (show false=true from hs) Bool.false_ne_true
theorem op_lt:OpR X (compareOp .Lt) (rI0 fun i j=>.bl (decide (i<j))):=opB0 fun _ _ _ _ _ _ _ q=>lt_int q
theorem op_le:OpR X (compareOp .LtE) (rI0 fun i j=>.bl (decide (i<=j))):=opB0 fun _ _ _ _ _ _ _ q=>le_int q
theorem op_gt:OpR X (compareOp .Gt) (rI0 fun i j=>.bl (decide (j<i))):=opB0 fun _ _ _ _ _ _ _ q=>gt_int q
theorem op_ge:OpR X (compareOp .GtE) (rI0 fun i j=>.bl (decide (j<=i))):=opB0 fun _ _ _ _ _ _ _ q=>ge_int q
theorem nomark(b:Expr){op:CmpOp}(h:op≠.In:=by decide)(h2:op≠.NotIn:=by decide):behindInMarks op b=false:=by
 have e1:(op == CmpOp.In)=false:=by cases op <;> first | rfl | exact absurd rfl h
 have e2:(op == CmpOp.NotIn)=false:=by cases op <;> first | rfl | exact absurd rfl h2
 cases b <;> simp[behindInMarks,e1,e2]
theorem pe_cmpR{op:CmpOp}{r:R2}(ho:OpR X (compareOp op) r)(ha:PE X a ta)(hb:PE X b tb)(hm:behindInMarks op b=false):PE X (.Compare a [op] [b] pos) (tOp r ta tb):=by
 intro pins s σ H Q I h
 exact wpAny_Compare1 (binT ha hb I h fun v u s2 x y H2 I2 rx ry q=>ho pins s2 σ H2 x y v u Q I2 rx ry q) hm
noncomputable def tTest(t:TE):TT:=fun σ H Q=>t σ H fun x H'=>ExB x fun k=>Q k H'
theorem pt_cmpR{op:CmpOp}{r:R2}(ho:OpR X (compareOp op) r)(ha:PE X a ta)(hb:PE X b tb)(hm:behindInMarks op b=false):PT X (.Compare a [op] [b] pos) (tTest (tOp r ta tb)):=by
 intro pins s σ H Q I h
 refine wpAny_isTrue_Compare1 (thn (ha pins s σ H _ I h) fun v s1 ⟨x,H1,I1,r1,q1⟩=>thn (hb pins s1 σ H1 _ I1 q1) fun u s2 ⟨y,H2,I2,r2,q2⟩ =>
  thn (ho pins s2 σ H2 x y v u _ I2 r1 r2 q2) fun c s3 ⟨z,H3,I3,r3,k,e,q3⟩=>?_) hm
 subst e
 cases r3
 exact wpAny_truthy_bool ⟨H3,I3,q3⟩
noncomputable def TruV(K:PySem.W.Frag)(x:V)(H:Hp)(k:Bool):Prop :=
 match x with
 | .non=>k=false
 | .bl b=>k=b
 | .int i=>k=(i != 0)
 | .str y=>y.length<=sizeLine/\k=((y.length:Int) != 0)
 | .byt y=>y.size<=sizeLine/\k=((y.size:Int) != 0)
 | .ref p=>(∃ xs,SqL K H p xs/\k = !xs.isEmpty)\/(∃ xs,SqT K H p xs/\k = !xs.isEmpty)\/∃ kvs,H p=some (.dK kvs)/\k = !kvs.isEmpty
 | _=>False
theorem isEmpty_kv{κ:Type}{kvs:List (κ×V)}{vs:List (κ×Value)}(r:KV kvs vs):(!vs.isEmpty) = !kvs.isEmpty:=by
 cases r <;> rfl
theorem isEmpty_of{xs:List V}{its:List Value}(r:Vals xs its):(!its.toArray.isEmpty) = !xs.isEmpty:=by
 cases r <;> simp
theorem line63:(sizeLine:Nat)<2 ^ 63:=by rw[sizeLine_eq];decide
theorem tru_ok:TruR X (fun x H Q=>∃ k,TruV X.K x H k/\Q k H):=by
 intro pins s σ H x v Q I rx h
 obtain⟨k,e,q⟩:=h
 have hl:=line63
 have hs:sizeLine=16777216:=sizeLine_eq
 cases x with
 |non =>
  cases rx
  have e':k=false:=e
  subst e'
  exact truthy_none ⟨H,I,q⟩
 |bl b =>
  cases rx
  have e':k=b:=e
  subst e'
  exact wpAny_truthy_bool ⟨H,I,q⟩
 |int i =>
  obtain⟨t,rfl⟩:=rx
  have e':k=(i != 0):=e
  subst e'
  exact PySem.P.truthy_int ⟨H,I,q⟩
 |str y =>
  obtain⟨t,rfl⟩:=rx
  obtain⟨hy,e'⟩:y.length<=sizeLine/\k=((y.length:Int) != 0):=e
  subst e'
  exact PySem.P.truthy_str (by lia) ⟨H,I.tok _,q⟩
 |byt y =>
  obtain⟨t,rfl⟩:=rx
  obtain⟨hy,e'⟩:y.size<=sizeLine/\k=((y.size:Int) != 0):=e
  subst e'
  exact PySem.W.truthy_bytes (by lia) ⟨H,I.tok _,q⟩
 |ref p =>
  cases rx
  have e':(∃ xs,SqL X.K H p xs/\k = !xs.isEmpty)\/(∃ xs,SqT X.K H p xs/\k = !xs.isEmpty)\/∃ kvs,H p=some (.dK kvs)/\k = !kvs.isEmpty:=e
  rcases e' with⟨xs,hx,e'⟩ |⟨xs,hx,e'⟩ |⟨kvs,hx,e'⟩
  ·subst e'
   obtain⟨its,r,pl,hz⟩:=I.list hx
   have hlen:=r.length
   exact wpAny_truthy_list pl.isList (by simp only[List.size_toArray];lia) ⟨H,I.tok _,by rw[isEmpty_of r];exact q⟩
  ·subst e'
   obtain⟨its,r,pl,hz⟩:=I.tuple hx
   have hlen:=r.length
   exact truthy_tuple pl (by simp only[List.size_toArray];lia) ⟨H,I.tok _,by rw[isEmpty_of r];exact q⟩
  ·subst e'
   obtain⟨hz,hS,vs,r,m⟩:kvs.length<=sizeLine/\(p == sysModules)=false/\∃ vs,KV kvs vs/\s.heap.DictOf (mixKind X.prog X.w) p vs:=I.hok p _ hx
   have hlen:kvs.length=vs.length:=Paired.length r
   exact wpAny_truthy_dict hS m (by lia) ⟨H,I.tok _,by rw[isEmpty_kv r];exact q⟩
 | _=>exact(show False from e).elim
theorem pt_truth(ha:PE X a ta)(he:∀ whole,isTrue a X.env whole=(do let v <- whole;standAt a.pos;holding [v] (truthy v))) :
  PT X a (fun σ H Q=>ta σ H fun x H'=>∃ k,TruV X.K x H' k/\Q k H'):=by
 intro pins s σ H Q I h
 exact isTrue_plain (thn (ha pins s σ H _ I h) fun v s1 ⟨x,H1,I1,r1,q1⟩=>tru_ok pins s1 σ H1 x v Q I1 r1 q1) (he _)
theorem vals1{x:V}{us:List Value}(r:Vals [x] us):∃ u,us=[u]/\RelV x u:=by
 cases r with
 |cons r1 r2=>cases r2;exact⟨_,rfl,r1⟩
theorem vals2{x y:V}{us:List Value}(r:Vals [x,y] us):∃ u w',us=[u,w']/\RelV x u/\RelV y w':=by
 cases r with
 |cons r1 r2 =>
  cases r2 with
  |cons r3 r4=>cases r4;exact⟨_,_,rfl,r1,r3⟩
theorem call_abs:CallR X (.builtin "abs") (fun xs H Q=>∃ i,xs=[.int i]/\Q (.int (if i<0 then -i else i)) H):=by
 intro pins s σ H xs us Q I r h
 obtain⟨i,rfl,q⟩:=h
 obtain⟨u,rfl,t,rfl⟩:=vals1 r
 exact call_abs_int fun u tk=>⟨.int (if i<0 then -i else i),H,I.tok _,⟨_,rfl⟩,q⟩
theorem call_max2(hc:X.calm=true):CallR X (.builtin "max") (fun xs H Q=>∃ i j,xs=[.int i,.int j]/\Q (.int (if j > i then j else i)) H):=by
 intro pins s σ H xs us Q I r h
 obtain⟨i,j,rfl,q⟩:=h
 obtain⟨u,w',rfl,⟨t,rfl⟩,⟨t',rfl⟩⟩:=vals2 r
 refine max_two_ints (I.ok.hd hc) fun h' tk k=>⟨_,H,I.kept k,?_,q⟩
 by_cases hj:j > i
 ·rw[if_pos hj,if_pos hj];exact⟨_,rfl⟩
 ·rw[if_neg hj,if_neg hj];exact⟨_,rfl⟩
theorem call_min2(hc:X.calm=true):CallR X (.builtin "min") (fun xs H Q=>∃ i j,xs=[.int i,.int j]/\Q (.int (if j<i then j else i)) H):=by
 intro pins s σ H xs us Q I r h
 obtain⟨i,j,rfl,q⟩:=h
 obtain⟨u,w',rfl,⟨t,rfl⟩,⟨t',rfl⟩⟩:=vals2 r
 refine min_two_ints (I.ok.hd hc) fun h' tk k=>⟨_,H,I.kept k,?_,q⟩
 by_cases hj:j<i
 ·rw[if_pos hj,if_pos hj];exact⟨_,rfl⟩
 ·rw[if_neg hj,if_neg hj];exact⟨_,rfl⟩
theorem call_int1:CallR X (.type "int") (fun xs H Q=>(∃ i,xs=[.int i]/\Q (.int i) H)\/∃ k,xs=[.bl k]/\Q (.int (if k then 1 else 0)) H):=by
 intro pins s σ H xs us Q I r h
 rcases h with⟨i,rfl,q⟩ |⟨k,rfl,q⟩
 ·obtain⟨u,rfl,t,rfl⟩:=vals1 r
  exact call_int_int ⟨.int i,H,I,⟨_,rfl⟩,q⟩
 ·obtain⟨u,rfl,r1⟩:=vals1 r
  cases r1
  exact call_int_bool ⟨.int (if k then 1 else 0),H,I.tok _,⟨_,rfl⟩,q⟩
end
open PySem PySem.Spec PyProof.Rows
theorem RelO.some_of{v:V}{o:Option Value}(r:RelO (some v) o):∃ u,o=some u/\RelV v u:=by
 cases o with
 |none=>exact(show False from r).elim
 |some u=>exact⟨u,rfl,r⟩
open PySem PySem.Spec PyProof.Rows
theorem deep_gd{A:Around}{env:Env}(h:A.guards=some []):(A.deeper env).guards=some []:=by
 first | exact h | simp[Around.deeper,h]
structure Room(k:Nat)(A:Around):Prop where
 hd:A.handled=none
 dp:A.depth+3 * k+5<recursionLimit
 un:A.units+16 * k+200<cLine
 gd:A.guards=some []
theorem Room.mono{j k:Nat}{A:Around}(r:Room k A)(h:j<=k):Room j A:=⟨r.hd,by have:=r.dp;lia,by have:=r.un;lia,r.gd⟩
theorem Room.deeper{k:Nat}{A:Around}(r:Room (k+1) A)(env:Env):Room k (A.deeper env) :=
 ⟨r.hd,by have:=r.dp;show A.depth+1+3 * k+5<_;lia,by have:=r.un;show A.units+3+16 * k+200<_;lia,deep_gd r.gd⟩
theorem Room.depth{k:Nat}{A:Around}(r:Room k A):A.depth<recursionLimit:=by have:=r.dp;lia
theorem Room.units{k:Nat}{A:Around}(r:Room k A):A.units+64<cLine:=by have:=r.un;lia
theorem Room.units0{k:Nat}{A:Around}(r:Room k A):A.units<cLine:=by have:=r.un;lia
noncomputable def tNil:TA:=fun _ H Q=>Q [] H
noncomputable def tCons(ta:TE)(tr:TA):TA:=fun σ H Q=>ta σ H fun x H1=>tr σ H1 fun xs H2=>Q (x :: xs) H2
section
variable{X:Cx}{e:Expr}{es:List Expr}{te:TE}{t:TA}{pos:Pos}
theorem pa_nil:PA X [] tNil:=fun _ _ _ _ H Q I h=>Calls.spliced_nil ⟨[],H,I,.nil,h⟩
theorem pa_cons(ha:PE X e te)(hr:PA X es t)(hs:starEach (e :: es) X.env=(false,eval e X.env) :: starEach es X.env:=by rfl):PA X (e :: es) (tCons te t):=by
 intro pos pins s σ H Q I h
 rw[hs]
 show wpAny _ _ (spliced ((false,eval e X.env) :: backTo pos (starEach es X.env))) _ _ s
 refine Calls.spliced_cons (thn (ha pins s σ H _ I h) fun u s1 ⟨x,H1,I1,r1,q1⟩=>?_)
 exact thn (hr pos pins s1 σ H1 _ I1 q1) fun us s2 ⟨xs,H2,I2,r2,q2⟩=>⟨x :: xs,H2,I2,.cons r1 r2,q2⟩
noncomputable def tTup(t:TA):TE:=fun σ H Q=>t σ H fun xs H1=>xs.length<=sizeLine/\∀ p,H1 p=none->Q (.ref p) (upd H1 p (.tup xs))
noncomputable def tLst(t:TA):TE:=fun σ H Q=>t σ H fun xs H1=>xs.length<=sizeLine/\∀ p,H1 p=none->Q (.ref p) (upd H1 p (.lst xs))
theorem pe_tup{x1}(h:PA X es t):PE X (.Tuple es x1 pos) (tTup t):=by
 intro pins s σ H Q I hq
 refine wpAny_Tuple_spliced (thn (h pos pins s σ H _ I hq) fun us s1 ⟨xs,H1,I1,r,z,q⟩=>⟨by rw[<- r.length];exact z,?_⟩)
 have hf:H1 s1.heap.objs.size=none:=I1.hok.fresh (Nat.le_refl _)
 refine⟨.ref s1.heap.objs.size,upd H1 s1.heap.objs.size (.tup xs),I1.laid (t':=s1.toks) (fun b u e=>Heap.get?_push_of_some _ e) (Nat.le_refl _) ?_,rfl,q _ hf⟩
 exact⟨z,us,r,⟨_,Heap.get?_push_size _ rfl,rfl,_,rfl⟩⟩
theorem pe_lst(h:PA X es t):PE X (.List es pos) (tLst t):=by
 intro pins s σ H Q I hq
 refine wpAny_List_spliced (thn (h pos pins s σ H _ I hq) fun us s1 ⟨xs,H1,I1,r,z,q⟩=>⟨by rw[<- r.length];exact z,?_⟩)
 have hf:H1 s1.heap.objs.size=none:=I1.hok.fresh (Nat.le_refl _)
 refine⟨.ref s1.heap.objs.size,upd H1 s1.heap.objs.size (.lst xs),I1.laid (t':=s1.toks) (fun b u e=>Heap.get?_push_of_some _ e) (Nat.le_refl _) ?_,rfl,q _ hf⟩
 exact⟨z,us,0,r,Heap.get?_push_size _ rfl⟩
end
noncomputable abbrev Sp:=List V->Hp->VK->XK->Prop
noncomputable abbrev CXT:=List Env->Hp->Shared->XK->Value->Shared->Prop
structure Env0(P:Program)(w:World)(K:PySem.W.Frag)(mg:Str->Option Value)(base:Heap)(A:Around)(outer:List Env)(s:Shared)(H:Hp):Prop where
 frames:A.frames=some outer
 mod:Mod K mg base
 bs:∀ b o,base.get? b=some o->s.heap.get? b=some o/\H b=none
 bsz:base.objs.size<=s.heap.objs.size
 funs:s.heap.FunFrames base outer
 frf:∀ b∈frs outer,H b=none
 hok:HOk P w H s.heap
 bare:AllBare s.gens
noncomputable def CE(outer:List Env)(P:Program)(w:World)(H:Hp)(s:Shared)(Q:VK)(u:Value)(s':Shared):Prop :=
 ∃ v H',s'.os=s.os/\AllBare s'.gens/\Un (frs outer) [] H H' s.heap s'.heap/\HOk P w H' s'.heap/\RelV v u/\Q v H'
noncomputable def CR(CX:CXT)(outer:List Env)(P:Program)(w:World)(H:Hp)(s:Shared)(Q:VK)(E:XK)(r:Result)(s':Shared):Prop :=
 match r with
 | .ok (.ret u)=>CE outer P w H s Q u s'
 | .ok _=>False
 | .error e=>CX outer H s E e s'
structure FnOk(P:Program)(w:World)(K:PySem.W.Frag)(mg:Str->Option Value)(base:Heap)(CX:CXT)(k:Nat)(f:Addr)(fd:FuncData)(ps:List Str)(sp:Sp):Prop where
 len:∀ vs H Q E,sp vs H Q E->vs.length=ps.length
 run:∀ (A:Around) (outer:List Env) (s:Shared) (H:Hp) (args:Args) (us:List Value) (vs:List V) (Q:VK) (E:XK),Room k A->Env0 P w K mg base A outer s H->BindsTo s fd args (ps.zip us)->Vals vs us->sp vs H Q E ->
  codeAny (model P w) A (.call (.ref f) args) (CR CX outer P w H s Q E) s
section
variable{X:Cx}{pins:List (Addr×Obj)}{σ:St}{H:Hp}{s s':Shared}
theorem Inv.env0(I:Inv X pins σ H s):Env0 X.prog X.w X.K X.mg X.base X.A X.stack s H :=
 ⟨I.ok.frames,I.ok.mod,I.bs,Nat.le_trans I.ok.bsz I.sz,I.stack,I.stkFree,I.hok,I.bare⟩
theorem Inv.after{Q:VK}{u:Value}(I:Inv X pins σ H s)(h:CE X.stack X.prog X.w H s Q u s'):EP X pins σ Q u s':=by
 obtain⟨v,H',os,bare,un,hok,r,q⟩:=h
 obtain⟨hh,g,d,t,os'⟩:=s'
 obtain rfl:os'=s.os:=os
 exact⟨v,H',I.call (h':=hh) (g':=g) (d':=d) (t':=t) (ch:=[]) un hok bare (fun b z=>absurd z (by simp)),r,q⟩
end
noncomputable def tCall(sp:Sp)(dvs:List V)(E:XK)(t:TA):TE:=fun σ H Q=>t σ H fun vs H1=>sp (vs++dvs) H1 Q E
noncomputable def Binds(K:PySem.W.Frag)(fd:FuncData)(ps:List Str)(ds:List Value):Prop :=
 ∀ (s:Shared) (us:List Value),K.In s.heap->(us++ds).length=ps.length->BindsTo s fd ⟨us,[]⟩ (ps.zip (us++ds))
theorem Binds.all{K:PySem.W.Frag}{fd:FuncData}{ps:List Str}(h:∀ us:List Value,us.length=ps.length->bindArgs fd ⟨us,[]⟩=pure (ps.zip us)):Binds K fd ps []:=fun s us _ hl=>by
 rw[List.append_nil]at hl ⊢
 exact .of_eq (h us hl)
noncomputable def Passes(CX:CXT)(X:Cx)(E:XK):Prop:=∀ (pins:List (Addr×Obj)) (σ:St) (H:Hp) (s:Shared) (e:Value) (s':Shared),Inv X pins σ H s->CX X.stack H s E e s'->X.xe e s'
section
variable{X:Cx}{CX:CXT}{k:Nat}{f C:Addr}{fd:FuncData}{ps:List Str}{sp:Sp}{dvs:List V}{ds:List Value}{E:XK}{x m:Str}{p pos apos:Pos}{e o:Expr}{es:List Expr}{ta:TE}{t:TA}
theorem run_fn{pins:List (Addr×Obj)}{σ:St}{H:Hp}{s:Shared}{Q:VK}{us:List Value}{vs:List V}(F:FnOk X.prog X.w X.K X.mg X.base CX k f fd ps sp)(hr:Room k X.A)(hb:Binds X.K fd ps ds)(hd:Vals dvs ds)(hx:Passes CX X E)
  (I:Inv X pins σ H s) (r:Vals vs us) (h:sp (vs++dvs) H Q E):wpAny (model X.prog X.w) X.A (call (.ref f) us) (EP X pins σ Q) X.xe s:=by
 have r2:Vals (vs++dvs) (us++ds):=r.append hd
 have hl:(us++ds).length=ps.length:=by rw[<- r2.length];exact F.len _ _ _ _ h
 refine wpAny_call (codeAny_mono (F.run X.A X.stack s H ⟨us,[]⟩ (us++ds) (vs++dvs) Q E hr I.env0 (hb s us I.kIn hl) r2 h) fun r s' hq=>?_)
 cases r with
 |error e=>exact hx pins σ H s e s' I hq
 |ok fl =>
  cases fl with
  |ret u=>exact I.after hq
  |next=>exact False.elim hq
  |brk=>exact False.elim hq
  |cont=>exact False.elim hq
theorem pe_call(F:FnOk X.prog X.w X.K X.mg X.base CX k f fd ps sp)(hr:Room k X.A)(hg:Gl X x)(hm:X.mg x=some (.ref f))(hk:PySem.W.keepIn X.K (.ref f)=true)(hb:Binds X.K fd ps ds)(hd:Vals dvs ds)(hx:Passes CX X E)
  (ha:PA X (e :: es) t) (hdb:(x ==("__debug__":Str))=false:=by decide) (he:starEach (e :: es) X.env=(false,eval e X.env) :: starEach es X.env:=by rfl) (hpl:(backTo pos (starEach es X.env)).any (·.1)=false:=by rfl) :
  PE X (.Call (.Name x p) (e :: es) [] pos) (tCall sp dvs E t):=by
 intro pins s σ H Q I h
 refine wpAny_Call_Name_kw (ld_glob I hg hm ?_ hdb)
 refine PySem.W.callWith_K (h₀:=X.base) I.ok.mod.kin hk (thn (ha pos pins s σ H _ I h) fun us s1 ⟨vs,H1,I1,r,q⟩=>⟨I1.kIn,?_⟩) he hpl
 exact run_fn F hr hb hd hx I1 r q
end
structure FnScope(N P:List Str)(sc:Scope):Prop where
 kind:sc.kind = .function
 co:sc.isCoroutine=false
 gen:sc.isGenerator=false
 nd:N.Nodup
 pre:N.take P.length=P
 par:∀ x∈P,sc.names.lookup x=some .local\/sc.names.lookup x=some .cell
 nofree:∀ y∈sc.names,y.2≠.free
theorem bindL_out{kindOf:Str->Option NameKind}{x:Str}:∀ {binds:List (Str×Value)}{m:Str->Option Value},(∀ v,(x,v)∉binds)->bindL kindOf binds m x=m x
 |[],_,_=>rfl
 |(n,v) :: r,m,h=>by
  unfold bindL
  rw[bindL_out fun w hw=>h w (List.mem_cons_of_mem _ hw)]
  split
  ·have:x≠n:=by rintro rfl;exact h v List.mem_cons_self
   simp[this]
  ·rfl
theorem bindC_out{kindOf:Str->Option NameKind}{x:Str}:∀ {binds:List (Str×Value)}{m:Str->Option Value},(∀ v,(x,v)∉binds)->bindC kindOf binds m x=m x
 |[],_,_=>rfl
 |(n,v) :: r,m,h=>by
  unfold bindC
  rw[bindC_out fun w hw=>h w (List.mem_cons_of_mem _ hw)]
  split
  ·rfl
  ·have:x≠n:=by rintro rfl;exact h v List.mem_cons_self
   simp[this]
theorem bindL_get{kindOf:Str->Option NameKind}{x:Str}{v:Value}:∀ {P:List Str}{vs:List Value}{i:Nat}{m:Str->Option Value},P.Nodup->P[i]?=some x->vs[i]?=some v->kindOf x=some .local ->
  bindL kindOf (P.zip vs) m x=some v
 |[],_,_,_,_,h,_,_=>by simp at h
 | _ :: _,[],_,_,_,_,h,_=>by simp at h
 |p :: P,w :: vs,0,m,nd,h1,h2,hk=>by
  simp at h1 h2;subst h1;subst h2
  show bindL kindOf ((p,w) :: P.zip vs) m p=_
  unfold bindL
  rw[bindL_out fun v hv=>(List.nodup_cons.mp nd).1 (List.of_mem_zip hv).1,if_pos hk]
  simp
 |p :: P,w :: vs,i+1,m,nd,h1,h2,hk=>by
  show bindL kindOf ((p,w) :: P.zip vs) m x=_
  unfold bindL
  exact bindL_get (i:=i) (List.nodup_cons.mp nd).2 (by simpa using h1) (by simpa using h2) hk
theorem bindC_get{kindOf:Str->Option NameKind}{x:Str}{v:Value}:∀ {P:List Str}{vs:List Value}{i:Nat}{m:Str->Option Value},P.Nodup->P[i]?=some x->vs[i]?=some v->kindOf x≠some .local ->
  bindC kindOf (P.zip vs) m x=some v
 |[],_,_,_,_,h,_,_=>by simp at h
 | _ :: _,[],_,_,_,_,h,_=>by simp at h
 |p :: P,w :: vs,0,m,nd,h1,h2,hk=>by
  simp at h1 h2;subst h1;subst h2
  show bindC kindOf ((p,w) :: P.zip vs) m p=_
  unfold bindC
  rw[bindC_out fun v hv=>(List.nodup_cons.mp nd).1 (List.of_mem_zip hv).1,if_neg hk]
  simp
 |p :: P,w :: vs,i+1,m,nd,h1,h2,hk=>by
  show bindC kindOf ((p,w) :: P.zip vs) m x=_
  unfold bindC
  exact bindC_get (i:=i) (List.nodup_cons.mp nd).2 (by simpa using h1) (by simpa using h2) hk
noncomputable def start(N:List Str)(vs:List V):St:=vs.map some++List.replicate (N.length-vs.length) none
noncomputable def cxOf(CX:CXT)(P:Program)(w:World)(K:PySem.W.Frag)(mg:Str->Option Value)(base:Heap)(N:List Str)(qual:Str)(scope:Scope)(f:Addr)(cd:Value)(A:Around)(outer:List Env)(s:Shared)(H:Hp)(E:XK):Cx where
 prog:=P
 w:=w
 K:=K
 mg:=mg
 base:=base
 A:=A.deeper (envOfC qual scope s.heap.objs.size f cd)
 N:=N
 s₀:=s
 H₀:=H
 env:=envOfC qual scope s.heap.objs.size f cd
 outer:=outer
 stack:=envOfC qual scope s.heap.objs.size f cd :: outer
 ex:=[]
 calm:=true
 fn:=fun _=>true
 pn:=[]
 xe:=fun e s'=>wpAny (model P w) (A.deeper (envOfC qual scope s.heap.objs.size f cd)) (leaving (envOfC qual scope s.heap.objs.size f cd) e) (fun _ s''=>CX outer H s E e s'') (fun e' s''=>CX outer H s E e' s'') s'
theorem cell_has{sc:Scope}{n:Nat}{x:Str}(h:sc.names.lookup x=some .cell):∃ c,(cellsFrom n sc.names []).lookup x=some c:=by
 have q:=PySem.W.cellsFrom_some sc.names n [] (.inl h)
 exact Option.isSome_iff_exists.mp q
theorem inv_start{CX:CXT}{P:Program}{w:World}{K:PySem.W.Frag}{mg:Str->Option Value}{base:Heap}{N ps:List Str}{qual:Str}{scope:Scope}{f:Addr}{cd:Value}{A:Around}{outer:List Env}{s s1:Shared}{H:Hp}{E:XK}{us:List Value}{vs:List V}
  (S:FnScope N ps scope) (hd:A.handled=none) (e0:Env0 P w K mg base A outer s H) (hl:vs.length=ps.length) (r:Vals vs us)
  (x:InCallC s s.heap.objs.size (bindL (envOfC qual scope s.heap.objs.size f cd).kindOf (ps.zip us) fun _=>none) (cellsFrom (s.heap.objs.size+1) scope.names []) (bindC (envOfC qual scope s.heap.objs.size f cd).kindOf (ps.zip us) fun _=>none) s1) :
  Inv (cxOf CX P w K mg base N qual scope f cd A outer s H E) [] (start N vs) H s1:=by
 have hpl:ps.length<=N.length:=by have:=congrArg List.length S.pre;rw[List.length_take]at this;lia
 obtain⟨h1,tk,rfl,hk⟩:=x.done
 have noA:∀ b:Addr,b∉(cxOf CX P w K mg base N qual scope f cd A outer s H E).ex:=fun b z=>absurd (show b∈([]:List Addr)from z) (by simp)
 refine⟨⟨e0.mod,S.kind,rfl,rfl,Nat.le_refl _,fun y z c h1 h2=>?_,fun y hy=>?_,fun y c _ h=>?_,fun _=>hd,Around.frames_deeper e0.frames,.inr ⟨rfl,rfl⟩,fun b z=>absurd z (noA b),e0.bs,e0.bsz,fun b _ _=>noA b,fun b z=>absurd z (noA b),e0.funs,e0.frf⟩,
  rfl,e0.bare,Un.kept hk,⟨_,x.toInCall.ns,fun i y v h1 h2 h3=>?_⟩,fun y c h=>⟨_,x.cell y c h⟩,e0.hok.fresh (Nat.le_refl _),fun y c h=>?_,fun p hp=>absurd (show p∈([]:List (Addr×Obj))from hp) (by simp),e0.hok.kept hk,?_⟩
 ·exact name_of_addr x.apart (PySem.mem_of_lookup h1) (PySem.mem_of_lookup h2)
 ·have hy:scope.names.lookup y=some .cell\/scope.names.lookup y=some .free:=hy
  rcases hy with hy | hy
  ·exact cell_has hy
  ·exact absurd rfl (S.nofree _ (PySem.mem_of_lookup hy))
 ·exact Nat.le_of_lt (x.above y c (PySem.mem_of_lookup h))
 ·have hi:i<vs.length:=by
   unfold start at h2
   by_cases hi:i<vs.length
   ·exact hi
   ·rw[List.getElem?_append_right (by simpa using hi)]at h2
    rw[List.getElem?_replicate]at h2
    split at h2 <;> cases h2
  have ha:vs[i]?=some v:=by
   unfold start at h2
   rw[List.getElem?_append_left (by simpa using hi),List.getElem?_map]at h2
   cases e:vs[i]? with
   |none=>rw[e]at h2;cases h2
   |some a=>rw[e]at h2;cases h2;rfl
  obtain⟨u,hu,rv⟩:=r.get ha
  have hp:ps[i]?=some y:=by
   rw[<- S.pre,List.getElem?_take_of_lt (by lia)];exact h1
  have ndP:ps.Nodup:=by rw[<- S.pre];exact S.nd.sublist (List.take_sublist _ _)
  refine⟨u,rv,?_⟩
  rcases S.par y (List.mem_of_getElem? hp)with k | k
  ·exact .inl ⟨k,bindL_get ndP hp hu k⟩
  ·obtain⟨c,e⟩:=cell_has (n:=s.heap.objs.size+1) k
   refine .inr ⟨.inl k,c,e,?_⟩
   have q:=x.cell y c e
   rw[bindC_get ndP hp hu (by show scope.names.lookup y≠_;rw[k];decide)]at q
   exact q
 ·exact e0.hok.fresh (Nat.le_of_lt (x.above y c (PySem.mem_of_lookup h)))
 ·unfold start
  show _=N.length
  rw[List.length_append,List.length_map,List.length_replicate]
  lia
theorem fn_of{CX:CXT}{P:Program}{w:World}{K:PySem.W.Frag}{mg:Str->Option Value}{base:Heap}{k:Nat}{f:Addr}{name qual:Str}{params:Arguments}{body:List Stmt}{scope:Scope}{dV kV doc pm cdv ct oc:Value}{an od:Option Addr}
  {osl:Array (Option Value)}{N ps:List Str}{sp:Sp} (lk:K.lookup f=some ⟨oc,od,.func (PySem.W.fnOf name qual params body scope dV kV doc pm an cdv ct),osl⟩) (hcd:PySem.W.codeIn K cdv qual=true) (S:FnScope N ps scope)
  (len:∀ vs H Q E,sp vs H Q E->vs.length=ps.length)
  (hbody:∀ (A:Around) (outer:List Env) (s:Shared) (H:Hp) (vs:List V) (Q:VK) (E:XK),Room k (A.deeper (envOfC qual scope s.heap.objs.size f cdv))->sp vs H Q E ->
   ∃ t,PSs (cxOf CX P w K mg base N qual scope f cdv A outer s H E) body t/\t { nx:=fun _ H'=>Q .non H',rt:=Q } (start N vs) H) :
  FnOk P w K mg base CX (k+1) f (PySem.W.fnOf name qual params body scope dV kV doc pm an cdv ct) ps sp:=by
 refine⟨len,fun A outer s H args us vs Q E hr e0 hb r hsp=>?_⟩
 have hl:=len _ _ _ _ hsp
 have KX:K.In s.heap:=e0.mod.kin.keeps fun b o e=>(e0.bs b o e).1
 have lim:s.heap.NoLimit:=e0.mod.nolimit.keeps fun b o e=>(e0.bs b o e).1
 have hkind:∀ y∈ps.zip us,scope.names.lookup y.1=some .local\/(scope.names.lookup y.1=some .cell/\((cellsFrom (s.heap.objs.size+1) scope.names []).lookup y.1).isSome=true):=fun⟨n,v⟩ hy=>by
  rcases S.par n (List.of_mem_zip hy).1 with q | q
  ·exact .inl q
  ·exact .inr ⟨q,PySem.W.cellsFrom_some _ _ _ (.inl q)⟩
 refine codeAny_call_function hr.depth (KX _ _ lk) rfl S.co S.gen rfl (PySem.W.codeRec_of KX hcd) (hb _ _ _ _ ?_)
 refine wpAny_newFunctionEnv_cells S.kind hkind fun env he s1 x=>?_
 subst he
 refine⟨lim.keeps x.toInCall.keep,codeAny_func ?_⟩
 obtain⟨t,ht,hq⟩:=hbody A outer s H vs Q E (hr.deeper _) hsp
 have I:Inv (cxOf CX P w K mg base N qual scope f cdv A outer s H E) [] (start N vs) H s1:=inv_start S hr.hd e0 hl r x
 refine wpAny_mono (ht [] s1 (start N vs) H _ I hq) (fun fl s' hs=>?_) fun e s' hs=>hs
 have fin:∀ {σ':St}{H':Hp}{v:V}{u:Value},Inv (cxOf CX P w K mg base N qual scope f cdv A outer s H E) [] σ' H' s'->RelV v u->Q v H'->CE outer P w H s Q u s' :=
  fun {σ' H' v u} J rv q=>⟨v,H',J.os,J.bare,J.base,J.hok,rv,q⟩
 cases fl with
 |ret u =>
  obtain⟨v,σ',H',J,rv,q⟩:=hs
  exact fin J rv q
 |next =>
  obtain⟨σ',H',J,q⟩:=hs
  exact fin (v:=V.non) (u:=Value.none) J rfl q
 |brk =>
  obtain⟨_,_,_,q⟩:=hs
  exact False.elim q
 |cont =>
  obtain⟨_,_,_,q⟩:=hs
  exact False.elim q
open PySem PySem.Spec PyProof.Rows
section
variable{X:Cx}{x:Str}{p pos:Pos}{e:Expr}{es:List Expr}{t:TA}{id T:String}{r:List V->Hp->VK->Prop}
noncomputable def tCB(r:List V->Hp->VK->Prop)(t:TA):TE:=fun σ H Q=>t σ H fun vs H1=>r vs H1 Q
theorem pe_callB(hc:CallR X (.builtin id) r)(hg:Gl X x)(hm:X.mg x=none)(hv:bootBuiltins x=some (.builtin id))(ha:PA X (e :: es) t)(hn:x≠"__name__":=by decide)(hdb:(x ==("__debug__":Str))=false:=by decide)
  (he:starEach (e :: es) X.env=(false,eval e X.env) :: starEach es X.env:=by rfl) (hpl:(backTo pos (starEach es X.env)).any (·.1)=false:=by rfl):PE X (.Call (.Name x p) (e :: es) [] pos) (tCB r t):=by
 intro pins s σ H Q I h
 refine wpAny_Call_Name_kw (ld_blt I hg hm hv ?_ hn hdb)
 exact PyProof.Rows.callWith_builtin1 (thn (ha pos pins s σ H _ I h) fun us s1 ⟨vs,H1,I1,r1,q1⟩=>hc pins s1 σ H1 vs us Q I1 r1 q1) he hpl
theorem pe_callTy(hc:CallR X (.type T) r)(hg:Gl X x)(hm:X.mg x=none)(hv:bootBuiltins x=some (.type T))(ha:PA X (e :: es) t)(hn:x≠"__name__":=by decide)(hdb:(x ==("__debug__":Str))=false:=by decide)
  (he:starEach (e :: es) X.env=(false,eval e X.env) :: starEach es X.env:=by rfl) (hpl:(backTo pos (starEach es X.env)).any (·.1)=false:=by rfl):PE X (.Call (.Name x p) (e :: es) [] pos) (tCB r t):=by
 intro pins s σ H Q I h
 refine wpAny_Call_Name_kw (ld_blt I hg hm hv ?_ hn hdb)
 exact PyProof.Rows.callWith_type1 (thn (ha pos pins s σ H _ I h) fun us s1 ⟨vs,H1,I1,r1,q1⟩=>hc pins s1 σ H1 vs us Q I1 r1 q1) he hpl
end
open PySem PySem.Spec PyProof.Rows
section
variable{κ:Type}[DecidableEq κ]
noncomputable def valV(kvs:List (κ×V))(k:κ):Option V:=(kvs.find? fun kv=>decide (kv.1=k)).map (·.2)
noncomputable def putK(kvs:List (κ×V))(k:κ)(v:V):List (κ×V) :=
 if(kvs.any fun kv=>decide (kv.1=k))=true then kvs.map (fun kv=>if kv.1=k then(kv.1,v)else kv)else kvs++[(k,v)]
theorem valV_nil{k:κ}:valV ([]:List (κ×V)) k=none:=rfl
theorem valV_pos{p:κ×V}{r:List (κ×V)}{k:κ}(e:p.1=k):valV (p :: r) k=some p.2:=by simp[valV,List.find?_cons,e]
theorem valV_neg{p:κ×V}{r:List (κ×V)}{k:κ}(e:¬ p.1=k):valV (p :: r) k=valV r k:=by simp[valV,List.find?_cons,e]
theorem valV_any(k:κ):∀ kvs:List (κ×V),(kvs.any fun kv=>decide (kv.1=k))=(valV kvs k).isSome
 |[]=>rfl
 |p :: r=>by
  rw[List.any_cons]
  by_cases e:p.1=k
  ·simp only[valV_pos e,decide_eq_true e,Bool.true_or,Option.isSome_some]
  ·rw[valV_neg e,decide_eq_false e,Bool.false_or];exact valV_any k r
theorem valV_map(k j:κ)(y:V):∀ kvs:List (κ×V),valV (kvs.map fun kv=>if kv.1=k then(kv.1,y)else kv) j=(valV kvs j).map fun x=>if j=k then y else x
 |[]=>rfl
 |p :: r=>by
  have ih:=valV_map k j y r
  rw[List.map_cons]
  by_cases h:p.1=k
  ·rw[if_pos h]
   by_cases e:p.1=j
   ·rw[valV_pos (p:=(p.1,y)) e,valV_pos e,Option.map_some,if_pos (e.symm.trans h)]
   ·rw[valV_neg (p:=(p.1,y)) e,valV_neg e,ih]
  ·rw[if_neg h]
   by_cases e:p.1=j
   ·rw[valV_pos (p:=p) e,valV_pos e,Option.map_some,if_neg (fun z=>h (e.trans z))]
   ·rw[valV_neg (p:=p) e,valV_neg e,ih]
theorem valV_snoc(k j:κ)(y:V):∀ kvs:List (κ×V),valV kvs k=none->valV (kvs++[(k,y)]) j=if j=k then some y else valV kvs j
 |[],_=>by
  by_cases e:k=j
  ·rw[if_pos e.symm];exact valV_pos (p:=(k,y)) e
  ·rw[if_neg (fun z=>e z.symm)];exact valV_neg (p:=(k,y)) e
 |p :: r,hn=>by
  rw[List.cons_append]
  have hk:¬ p.1=k:=fun z=>by rw[valV_pos z]at hn;cases hn
  rw[valV_neg hk]at hn
  have ih:=valV_snoc k j y r hn
  by_cases e:p.1=j
  ·rw[valV_pos e,valV_pos e,if_neg (fun z=>hk (e.trans z))]
  ·rw[valV_neg e,valV_neg e,ih]
theorem valV_put(kvs:List (κ×V))(k j:κ)(y:V):valV (putK kvs k y) j=if j=k then some y else valV kvs j:=by
 unfold putK
 by_cases a:(kvs.any fun kv=>decide (kv.1=k))=true
 ·rw[if_pos a,valV_map]
  rw[valV_any]at a
  by_cases e:j=k
  ·obtain⟨x,hx⟩:=Option.isSome_iff_exists.mp a
   rw[if_pos e,e,hx,Option.map_some,if_pos rfl]
  ·rw[if_neg e]
   cases valV kvs j with
   |none=>rfl
   |some x=>rw[Option.map_some,if_neg e]
 ·rw[if_neg a]
  refine valV_snoc k j y kvs ?_
  rw[valV_any]at a
  cases q:valV kvs k with
  |none=>rfl
  |some x=>rw[q]at a;exact(a rfl).elim
theorem length_putK(kvs:List (κ×V))(k:κ)(v:V):(putK kvs k v).length<=kvs.length+1:=by
 unfold putK
 split
 ·rw[List.length_map];lia
 ·rw[List.length_append,List.length_cons,List.length_nil];lia
theorem RelO.isSome_eq{o:Option V}{u:Option Value}(r:RelO o u):o.isSome=u.isSome:=by
 cases o with
 |none=>cases u with
  |none=>rfl
  |some _=>exact(show False from r).elim
 |some _=>cases u with
  |none=>exact(show False from r).elim
  |some _=>rfl
theorem KV.val{kvs:List (κ×V)}{vs:List (κ×Value)}(r:KV kvs vs)(k:κ):RelO (valV kvs k) (valueAt vs k):=by
 unfold KV at r
 induction r with
 |nil=>exact True.intro
 | @cons p q ps qs h t ih =>
  obtain⟨h1,h2⟩:=h
  by_cases e:p.1=k
  ·have e':q.1=k:=h1.symm.trans e
   have b:valueAt (q :: qs) k=some q.2:=by simp[valueAt,List.find?_cons,e']
   rw[valV_pos e,b];exact h2
  ·have e':¬ q.1=k:=fun z=>e (h1.trans z)
   have b:valueAt (q :: qs) k=valueAt qs k:=by simp[valueAt,List.find?_cons,e']
   rw[valV_neg e,b];exact ih
theorem KV.any{kvs:List (κ×V)}{vs:List (κ×Value)}(r:KV kvs vs)(k:κ):(kvs.any fun kv=>decide (kv.1=k))=vs.any fun kv=>decide (kv.1=k):=by
 unfold KV at r
 induction r with
 |nil=>rfl
 |cons h t ih=>rw[List.any_cons,List.any_cons,ih,h.1]
theorem KV.repl{kvs:List (κ×V)}{vs:List (κ×Value)}(r:KV kvs vs)(k:κ){y:V}{u:Value}(ry:RelV y u) :
  KV (kvs.map fun kv=>if kv.1=k then(kv.1,y)else kv) (vs.map fun kv=>if kv.1=k then(kv.1,u)else kv):=by
 unfold KV at r ⊢
 induction r with
 |nil=>exact .nil
 | @cons p q ps qs h t ih =>
  rw[List.map_cons,List.map_cons]
  refine .cons ?_ ih
  obtain⟨h1,h2⟩:=h
  by_cases e:p.1=k
  ·rw[if_pos e,if_pos (h1.symm.trans e)];exact⟨h1,ry⟩
  ·rw[if_neg e,if_neg (fun z=>e (h1.trans z))];exact⟨h1,h2⟩
theorem KV.put{kvs:List (κ×V)}{vs:List (κ×Value)}(r:KV kvs vs)(k:κ){y:V}{u:Value}(ry:RelV y u):KV (putK kvs k y) (stored vs k u):=by
 unfold putK stored
 rw[r.any k]
 by_cases e:(vs.any fun kv=>decide (kv.1=k))=true
 ·rw[if_pos e,if_pos e];exact r.repl k ry
 ·rw[if_neg e,if_neg e];exact Paired.snoc r ⟨rfl,ry⟩
theorem KV.length{kvs:List (κ×V)}{vs:List (κ×Value)}(r:KV kvs vs):kvs.length=vs.length:=Paired.length r
end
theorem kV_is{P:Program}{w:World}{k:Key}{u:Value}(r:RelV (kV k) u):(mixKind P w).is k u=true:=by
 cases k with
 |inl i=>obtain⟨t,e⟩:=(show ∃ t,u=Value.int i t from r);subst e;exact mixKind_int P w i t
 |inr x=>obtain⟨t,e⟩:=(show ∃ t,u=Value.str x t from r);subst e;exact mixKind_str P w x t
theorem items_are{P:Program}{w:World}:∀ {ks:List Key}{us:List Value},Vals (ks.map kV) us->ItemsAre (mixKind P w) ks us
 |[],_,r=>by rw[List.map_nil]at r;cases r;exact .nil
 |k :: ks,_,r=>by
  rw[List.map_cons]at r
  cases r with
  |cons h t=>exact .cons (kV_is h) (items_are t)
noncomputable abbrev KT(H:Hp):List (List Key×V)->List (List Key×Addr×Value)->Prop:=Paired fun p q=>p.1=q.1/\H q.2.1=some (.tup (p.1.map kV))/\RelV p.2 q.2.2
theorem KT.val{H:Hp}{kvs:List (List Key×V)}{xs:List (List Key×Addr×Value)}(r:KT H kvs xs)(k:List Key):RelO (valV kvs k) ((atKey xs k).map (·.2)):=by
 induction r with
 |nil=>exact True.intro
 | @cons p q ps qs h t ih =>
  obtain⟨h1,_,h2⟩:=h
  by_cases e:p.1=k
  ·have e':q.1=k:=h1.symm.trans e
   have b:atKey (q :: qs) k=some q.2:=by simp[atKey,List.find?_cons,e']
   rw[valV_pos e,b];exact h2
  ·have e':¬ q.1=k:=fun z=>e (h1.trans z)
   have b:atKey (q :: qs) k=atKey qs k:=by simp[atKey,List.find?_cons,e']
   rw[valV_neg e,b];exact ih
theorem KT.repl{H:Hp}{kvs:List (List Key×V)}{xs:List (List Key×Addr×Value)}(r:KT H kvs xs)(k:List Key){y:V}{u:Value}(ry:RelV y u) :
  KT H (kvs.map fun kv=>if kv.1=k then(kv.1,y)else kv) (xs.map (putAt k u)):=by
 induction r with
 |nil=>exact .nil
 | @cons p q ps qs h t ih =>
  rw[List.map_cons,List.map_cons]
  refine .cons ?_ ih
  obtain⟨h1,h2,h3⟩:=h
  unfold putAt
  by_cases e:p.1=k
  ·rw[if_pos e,if_pos (h1.symm.trans e)];exact⟨h1,h2,ry⟩
  ·rw[if_neg e,if_neg (fun z=>e (h1.trans z))];exact⟨h1,h2,h3⟩
theorem KT.put{H:Hp}{kvs:List (List Key×V)}{xs:List (List Key×Addr×Value)}(r:KT H kvs xs)(k:List Key){b:Addr}{y:V}{u:Value}(hb:H b=some (.tup (k.map kV)))(ry:RelV y u) :
  KT H (putK kvs k y) (storedH xs k b u):=by
 have e:(kvs.any fun kv=>decide (kv.1=k))=(atKey xs k).isSome:=by
  rw[valV_any,(r.val k).isSome_eq,Option.isSome_map]
 unfold putK storedH
 rw[e]
 by_cases q:(atKey xs k).isSome=true
 ·rw[if_pos q,if_pos q];exact r.repl k ry
 ·rw[if_neg q,if_neg q];exact Paired.snoc r ⟨rfl,hb,ry⟩
theorem KT.keeps{H H':Hp}{kvs:List (List Key×V)}{xs:List (List Key×Addr×Value)}(r:KT H kvs xs)(ht:∀ b ys,H b=some (.tup ys)->H' b=some (.tup ys)):KT H' kvs xs :=
 Paired.mapP r fun _ _ z=>⟨z.1,ht _ _ z.2.1,z.2.2⟩
section
variable{P:Program}{w:World}{H:Hp}{h:Heap}{a:Addr}
theorem rd_of{u:HO}(ok:HOk P w H h)(e:Rd H a u):ObjOk P w H h a u:=e.ok ok
theorem dk_rd{kvs:List (Key×V)}(ok:HOk P w H h)(e:Rd H a (.dK kvs)):kvs.length<=sizeLine/\(a == sysModules)=false/\∃ vs,KV kvs vs/\h.DictOf (mixKind P w) a vs :=
 show ObjOk P w H h a (.dK kvs)from rd_of ok e
theorem dk_of{kvs:List (Key×V)}(ok:HOk P w H h)(e:H a=some (.dK kvs)):kvs.length<=sizeLine/\(a == sysModules)=false/\∃ vs,KV kvs vs/\h.DictOf (mixKind P w) a vs:=dk_rd ok (.inl e)
theorem key_of{ks:List Key}(ok:HOk P w H h)(e:H a=some (.tup (ks.map kV))):(tupleKind (mixKind P w)).is h ks a:=by
 obtain⟨_,its,r,o,h1,h2,n,h3⟩:=(show ObjOk P w H h a (.tup (ks.map kV))from ok a _ e)
 exact⟨o,its.toArray,n,h1,h2,h3,by simpa using items_are r⟩
theorem dt_rd{kvs:List (List Key×V)}(ok:HOk P w H h)(e:Rd H a (.dT kvs)):kvs.length<=sizeLine/\(a == sysModules)=false /\
  ∃ xs,KT H kvs xs/\h.DictOfH (tupleKind (mixKind P w)) a xs:=by
 obtain⟨z,y,xs,r,o,es,ep,h1,h2,h3,h4,h5⟩:=(show ObjOk P w H h a (.dT kvs)from rd_of ok e)
 refine⟨z,y,xs,r,o,es,ep,h1,h2,h3,h4,fun x hx=>?_,h5⟩
 have all:∀ {l:List (List Key×V)}{m:List (List Key×Addr×Value)},KT H l m->∀ x∈m,(tupleKind (mixKind P w)).is h x.1 x.2.1:=by
  intro l m q
  induction q with
  |nil=>intro x hx;exact nomatch hx
  | @cons p q ps qs hq t ih =>
   intro x hx
   rcases List.mem_cons.mp hx with e | hx
   ·subst e
    exact key_of ok (by rw[<- hq.1];exact hq.2.1)
   ·exact ih x hx
 exact all r x hx
theorem dt_of{kvs:List (List Key×V)}(ok:HOk P w H h)(e:H a=some (.dT kvs)):kvs.length<=sizeLine/\(a == sysModules)=false /\
  ∃ xs,KT H kvs xs/\h.DictOfH (tupleKind (mixKind P w)) a xs:=dt_rd ok (.inl e)
end
noncomputable def DGet(H:Hp)(a:Addr)(y:V)(r:Option V):Prop :=
 (∃ kvs k,Rd H a (.dK kvs)/\y=kV k/\r=valV kvs k)\/∃ kvs k b,Rd H a (.dT kvs)/\y = .ref b/\H b=some (.tup (k.map kV))/\r=valV kvs k
noncomputable def DPut(H:Hp)(a:Addr)(y v:V)(H':Hp):Prop :=
 (∃ kvs k,H a=some (.dK kvs)/\y=kV k/\kvs.length<sizeLine/\H'=upd H a (.dK (putK kvs k v))) \/
 ∃ kvs k b,H a=some (.dT kvs)/\y = .ref b/\H b=some (.tup (k.map kV))/\kvs.length<sizeLine/\H'=upd H a (.dT (putK kvs k v))
theorem DGet.k{H:Hp}{a:Addr}{kvs:List (Key×V)}{k:Key}(e:H a=some (.dK kvs)):DGet H a (kV k) (valV kvs k):=.inl ⟨kvs,k,.inl e,rfl,rfl⟩
theorem DGet.t{H:Hp}{a b:Addr}{kvs:List (List Key×V)}{k:List Key}(e:H a=some (.dT kvs))(eb:H b=some (.tup (k.map kV))):DGet H a (.ref b) (valV kvs k):=.inr ⟨kvs,k,b,.inl e,rfl,eb,rfl⟩
theorem DPut.k{H:Hp}{a:Addr}{kvs:List (Key×V)}{k:Key}{v:V}(e:H a=some (.dK kvs))(hl:kvs.length<sizeLine):DPut H a (kV k) v (upd H a (.dK (putK kvs k v))):=.inl ⟨kvs,k,e,rfl,hl,rfl⟩
theorem DPut.t{H:Hp}{a b:Addr}{kvs:List (List Key×V)}{k:List Key}{v:V}(e:H a=some (.dT kvs))(eb:H b=some (.tup (k.map kV)))(hl:kvs.length<sizeLine) :
  DPut H a (.ref b) v (upd H a (.dT (putK kvs k v))):=.inr ⟨kvs,k,b,e,rfl,eb,hl,rfl⟩
section
variable{X:Cx}{pins:List (Addr×Obj)}{σ:St}{H:Hp}{s:Shared}{a:Addr}{y v:V}{u r:Value}{o:Option V}{A:Around}{E:Value->Shared->Prop}
theorem Inv.big(I:Inv X pins σ H s):sysModules<s.heap.objs.size:=by
 have h:mainGlobals<s.heap.objs.size:=(I.mod.glob.keeps I.bk).lt
 exact Nat.lt_trans (by decide) h
theorem d_getItem{Q:Value->Shared->Prop}(hu:A.units+1<cLine)(I:Inv X pins σ H s)(g:DGet H a y (some v))(ry:RelV y u)(h:∀ w' s',Inv X pins σ H s'->RelV v w'->Q w' s') :
  wpAny (model X.prog X.w) A (getItem (.ref a) u) Q E s:=by
 rcases g with⟨kvs,k,e,ey,l⟩ |⟨kvs,k,b,e,ey,eb,l⟩
 ·subst ey
  obtain⟨z,hd,vs,rel,dd⟩:=dk_rd I.hok e
  obtain⟨w',hw,rw'⟩:=RelO.some_of (v:=v) (o:=valueAt vs k) (by rw[l];exact rel.val k)
  exact wpAny_getItem_of (kV_is ry) dd.mapOf hw (h w' _ (I.tok _) rw')
 ·subst ey
  cases(show u=Value.ref b from ry)
  obtain⟨z,hd,xs,rel,dd⟩:=dt_rd I.hok e
  obtain⟨w',hw,rw'⟩:=RelO.some_of (v:=v) (o:=(atKey xs k).map (·.2)) (by rw[l];exact rel.val k)
  obtain⟨p,hp,hp2⟩:=Option.map_eq_some_iff.mp hw
  refine wpAny_getItem_heap (tupleKind_room_in1 hu) (key_of I.hok eb) dd hp ?_
  rw[hp2]
  exact h w' _ (I.tok _) rw'
theorem d_in{Q:Value->Shared->Prop}(hu:A.units+1<cLine)(I:Inv X pins σ H s)(g:DGet H a y o)(ry:RelV y u)(h:∀ s',Inv X pins σ H s'->Q (.bool o.isSome) s') :
  wpAny (model X.prog X.w) A (compareOp .In u (.ref a)) Q E s:=by
 rcases g with⟨kvs,k,e,ey,l⟩ |⟨kvs,k,b,e,ey,eb,l⟩
 ·subst ey
  obtain⟨z,hd,vs,rel,dd⟩:=dk_rd I.hok e
  refine wpAny_in_of (kV_is ry) hd dd.mapOf ?_
  rw[<-(rel.val k).isSome_eq,<- l]
  exact h _ (I.tok _)
 ·subst ey
  cases(show u=Value.ref b from ry)
  obtain⟨z,hd,xs,rel,dd⟩:=dt_rd I.hok e
  refine wpAny_in_heap (tupleKind_room_in1 hu) (key_of I.hok eb) hd dd ?_
  have q:=(rel.val k).isSome_eq
  rw[Option.isSome_map]at q
  rw[<- q,<- l]
  exact h _ (I.tok _)
theorem d_notIn{Q:Value->Shared->Prop}(hu:A.units+1<cLine)(I:Inv X pins σ H s)(g:DGet H a y o)(ry:RelV y u)(h:∀ s',Inv X pins σ H s'->Q (.bool (!o.isSome)) s') :
  wpAny (model X.prog X.w) A (compareOp .NotIn u (.ref a)) Q E s:=by
 rcases g with⟨kvs,k,e,ey,l⟩ |⟨kvs,k,b,e,ey,eb,l⟩
 ·subst ey
  obtain⟨z,hd,vs,rel,dd⟩:=dk_rd I.hok e
  refine wpAny_notIn_of (kV_is ry) hd dd.mapOf ?_
  rw[<-(rel.val k).isSome_eq,<- l]
  exact h _ (I.tok _)
 ·subst ey
  cases(show u=Value.ref b from ry)
  obtain⟨z,hd,xs,rel,dd⟩:=dt_rd I.hok e
  refine wpAny_notIn_heap (tupleKind_room_in1 hu) (key_of I.hok eb) hd dd ?_
  have q:=(rel.val k).isSome_eq
  rw[Option.isSome_map]at q
  rw[<- q,<- l]
  exact h _ (I.tok _)
theorem d_write{h':Heap}{t':Nat}{ob:HO}(I:Inv X pins σ H s)(mu:Mut (H a))(hs:Heap.SameBut a s.heap h')(he:∃ q,h'.get? a=some q)(new:ObjOk X.prog X.w (upd H a ob) h' a ob) :
  Inv X pins σ (upd H a ob) { s with heap:=h',toks:=t' } :=
 I.write (x:=a) (e:=a) mu (.inl rfl) (fun b q hb z=>(hs.2 b hb).trans z) he new
theorem dk_new{P:Program}{w:World}{H':Hp}{h':Heap}{kvs:List (Key×V)}{vs:List (Key×Value)}(z:kvs.length<=sizeLine)(hd:(a == sysModules)=false)(rel:KV kvs vs)(dd:h'.DictOf (mixKind P w) a vs) :
  ObjOk P w H' h' a (.dK kvs):=⟨z,hd,vs,rel,dd⟩
theorem d_setItem{H':Hp}{Q:Unit->Shared->Prop}(hu:A.units+1<cLine)(I:Inv X pins σ H s)(g:DPut H a y v H')(ry:RelV y u)(rv:RelV v r)(h:∀ s',Inv X pins σ H' s'->Q () s') :
  wpAny (model X.prog X.w) A (setItem (.ref a) u r) Q E s:=by
 rcases g with⟨kvs,k,e,ey,l,eH⟩ |⟨kvs,k,b,e,ey,eb,l,eH⟩
 ·subst ey eH
  obtain⟨z,hd,vs,rel,dd⟩:=dk_of I.hok e
  have hz:vs.length<=sizeLine:=by rw[<- rel.length];exact z
  have hl:(putK kvs k v).length<=sizeLine:=by have:=length_putK kvs k v;lia
  refine wpAny_setItem_pairs (hsz:=hz) (kV_is ry) dd fun h' dd' hs=>h _ ?_
  have he:∃ q,h'.get? a=some q:=let ⟨q,_,_,hq,_⟩:=dd';⟨q,hq⟩
  exact d_write I (by rw[e];exact True.intro) hs he (dk_new hl hd (rel.put k rv) dd')
 ·subst ey eH
  cases(show u=Value.ref b from ry)
  obtain⟨z,hd,xs,rel,dd⟩:=dt_of I.hok e
  have hz:xs.length<=sizeLine:=by rw[<- Paired.length rel];exact z
  have hl:(putK kvs k v).length<=sizeLine:=by have:=length_putK kvs k v;lia
  refine wpAny_setItem_heap (hsz:=hz) (tupleKind_room_in1 hu) (key_of I.hok eb) dd fun h' dd' hs=>h _ ?_
  obtain⟨q,es,ep,hq,h2,h3,h4,_,h5⟩:=dd'
  refine d_write I (by rw[e];exact True.intro) hs ⟨q,hq⟩ ⟨hl,hd,_,(rel.put k eb rv).keeps fun c ys ec=>?_,q,es,ep,hq,h2,h3,h4,h5⟩
  rw[upd_ne (ne_of ec e (fun z=>nomatch z))]
  exact ec
end
noncomputable def NoSl(i:Expr):Prop:=∀ ov iv,subscripted i false ov iv=operate [ov,iv] (getItem ov iv)
theorem subD_of{prog:Program}{w:World}{A:Around}{E:Value->Shared->Prop}{s:Shared}{env:Env}{value slice:Expr}{pos:Pos}{T id:String}{Q:Value->Shared->Prop}
  (hl:typeLookup (.type T) "__getitem__" = pure (some (.builtin id))) (hs:NoSl slice)
  (h:wpAny (model prog w) A (eval value env) (fun o s₁=>wpAny (model prog w) A (eval slice env) (fun i s₂=>s₂.TypeIs o T/\wpAny (model prog w) A (getItem o i) Q E s₂) E s₁) E s) :
  wpAny (model prog w) A (eval (.Subscript value slice pos) env) Q E s:=by
 refine Subscript_ (wpAny_mono h (fun o s₁ h₁=>wpAny_mono h₁ (fun i s₂ h₂=>?_) fun _ _ x=>x) fun _ _ x=>x)
 obtain⟨hT,h₂⟩:=h₂
 unfold subscriptTail
 refine wpAny_bind ?_
 rw[getitemInPython_of_ne hT.not_modules]
 refine wpAny_bind (wpAny_specialOf hT hl ?_)
 have fin:wpAny (model prog w) A (subscripted slice false o i) (fun r s₃=>wpAny (model prog w) A (letTemporaryGo value o r >>= fun _=>pure r) Q E s₃) E s₂:=by
  rw[hs o i]
  exact wpAny_operating (wpAny_mono h₂ (fun r s₃ h₃=>wpAny_bind (wpAny_letTemporaryGo (wpAny_pure h₃))) fun _ _ x=>x)
 first
  |exact wpAny_pure (wpAny_bind fin)
  |exact wpAny_bind (wpAny_pure (wpAny_bind fin))
  |exact wpAny_bind fin
theorem dict_typeIs{X:Cx}{pins:List (Addr×Obj)}{σ:St}{H:Hp}{s:Shared}{a:Addr}{y:V}{o:Option V}(I:Inv X pins σ H s)(g:DGet H a y o):s.TypeIs (.ref a) "dict":=by
 rcases g with⟨kvs,k,e,_,_⟩ |⟨kvs,k,b,e,_,_,_⟩
 ·obtain⟨_,_,vs,_,dd⟩:=dk_rd I.hok e
  exact dd.typeIs
 ·obtain⟨_,_,xs,_,dd⟩:=dt_rd I.hok e
  exact dd.typeIs
noncomputable def tDGet(td ty:TE):TE:=fun σ H Q=>td σ H fun x H1=>ty σ H1 fun y H2=>∃ a v,x = .ref a/\DGet H2 a y (some v)/\Q v H2
noncomputable def tDIn(ty td:TE):TE:=fun σ H Q=>ty σ H fun y H1=>td σ H1 fun x H2=>∃ a o,x = .ref a/\DGet H2 a y o/\Q (.bl o.isSome) H2
noncomputable def tDNotIn(ty td:TE):TE:=fun σ H Q=>ty σ H fun y H1=>td σ H1 fun x H2=>∃ a o,x = .ref a/\DGet H2 a y o/\Q (.bl (!o.isSome)) H2
noncomputable def sDPut(td ty tv:TE):TS:=fun D σ H=>tv σ H fun v H1=>td σ H1 fun x H2=>ty σ H2 fun y H3=>∃ a H4,x = .ref a/\DPut H3 a y v H4/\D.nx σ H4
section
variable{X:Cx}{o i e value:Expr}{pos pos' tpos:Pos}{td ty tv:TE}
theorem pe_dget(hu:X.A.units+1<cLine)(ho:PE X o td)(hi:PE X i ty)(hs:NoSl i):PE X (.Subscript o i pos) (tDGet td ty):=by
 intro pins s σ H Q I h
 refine subD_of PySem.F.slot_dict_getitem.lookup hs (thn (ho pins s σ H _ I h) fun u s1 ⟨x,H1,I1,rx,q1⟩=>thn (hi pins s1 σ H1 _ I1 q1) fun iv s2 ⟨y,H2,I2,ry,a,v,ex,g,q2⟩=>?_)
 subst ex
 obtain rfl:u=Value.ref a:=rx
 exact⟨dict_typeIs I2 g,d_getItem hu I2 g ry fun w' s3 I3 rw'=>⟨v,H2,I3,rw',q2⟩⟩
theorem pc_din(hu:X.A.units+1<cLine)(hi:PE X i ty)(ho:PE X o td):PC X .In i o (tDIn ty td):=by
 intro pins s σ H Q I h
 refine thn (hi pins s σ H _ I h) fun iv s1 ⟨y,H1,I1,ry,q1⟩=>thn (ho pins s1 σ H1 _ I1 q1) fun u s2 ⟨x,H2,I2,rx,a,ov,ex,g,q2⟩=>?_
 subst ex
 obtain rfl:u=Value.ref a:=rx
 exact d_in hu I2 g ry fun s3 I3=>⟨.bl ov.isSome,H2,I3,rfl,q2⟩
theorem pc_dnotin(hu:X.A.units+1<cLine)(hi:PE X i ty)(ho:PE X o td):PC X .NotIn i o (tDNotIn ty td):=by
 intro pins s σ H Q I h
 refine thn (hi pins s σ H _ I h) fun iv s1 ⟨y,H1,I1,ry,q1⟩=>thn (ho pins s1 σ H1 _ I1 q1) fun u s2 ⟨x,H2,I2,rx,a,ov,ex,g,q2⟩=>?_
 subst ex
 obtain rfl:u=Value.ref a:=rx
 exact d_notIn hu I2 g ry fun s3 I3=>⟨.bl (!ov.isSome),H2,I3,rfl,q2⟩
theorem ps_dput(hu:X.A.units+1<cLine)(ho:PE X o td)(hi:PE X i ty)(hv:PE X value tv)(hs:swapsWith value (some (.Subscript o i pos')) pos.line X.env=pure false) :
  PS X (.Assign [.Subscript o i pos'] value pos) (sDPut td ty tv):=by
 intro pins s σ H D I h
 refine wpAny_Assign_Subscript (thn (hv pins s σ H _ I h) fun r s1 ⟨v,H1,I1,rv,q1⟩=>thn (ho pins s1 σ H1 _ I1 q1) fun u s2 ⟨x,H2,I2,rx,q2⟩=>thn (hi pins s2 σ H2 _ I2 q2) fun iv s3 ⟨y,H3,I3,ry,a,H4,ex,g,q3⟩=>?_) hs
 subst ex
 obtain rfl:u=Value.ref a:=rx
 exact d_setItem hu I3 g ry rv fun s4 I4=>⟨σ,H4,I4,q3⟩
end
theorem dk_empty{P:Program}{w:World}{H:Hp}(h:Heap)(hb:sysModules<h.objs.size):ObjOk P w H (h.push { cls:=.type "dict",data:=.dict #[] }) h.objs.size (.dK []) :=
 ⟨Nat.zero_le _,beq_eq_false_iff_ne.mpr (Ne.symm (Nat.ne_of_lt hb)),[],.nil,Heap.DictOf.new h⟩
theorem dt_empty{P:Program}{w:World}{H:Hp}(h:Heap)(hb:sysModules<h.objs.size):ObjOk P w H (h.push { cls:=.type "dict",data:=.dict #[] }) h.objs.size (.dT []) :=
 ⟨Nat.zero_le _,beq_eq_false_iff_ne.mpr (Ne.symm (Nat.ne_of_lt hb)),[],.nil,_,#[],0,Heap.get?_push_size _ rfl,⟨rfl,rfl,rfl⟩,rfl,rfl,List.nodup_nil⟩
noncomputable def tDNewK:TE:=fun _ H Q=>∀ p,H p=none->Q (.ref p) (upd H p (.dK []))
noncomputable def tDNewT:TE:=fun _ H Q=>∀ p,H p=none->Q (.ref p) (upd H p (.dT []))
section
variable{X:Cx}{pos:Pos}
theorem pe_dnewK:PE X (.Dict [] [] pos) tDNewK:=fun pins s σ H Q I h =>
 wpAny_Dict_empty ⟨.ref s.heap.objs.size,_,I.laid (a:=s.heap.objs.size) (o:=.dK []) (t':=s.toks) (fun _ _ q=>Heap.get?_push_of_some _ q) (Nat.le_refl _) (dk_empty s.heap I.big),rfl,h _ (I.hok.fresh (Nat.le_refl _))⟩
theorem pe_dnewT:PE X (.Dict [] [] pos) tDNewT:=fun pins s σ H Q I h =>
 wpAny_Dict_empty ⟨.ref s.heap.objs.size,_,I.laid (a:=s.heap.objs.size) (o:=.dT []) (t':=s.toks) (fun _ _ q=>Heap.get?_push_of_some _ q) (Nat.le_refl _) (dt_empty s.heap I.big),rfl,h _ (I.hok.fresh (Nat.le_refl _))⟩
end
end L2
namespace HT
open PySem PyProof.Rows
section
open PySem.SeqAt
open PySem.AutoSeq1 (wpAny_loadPart')
open PySem.MeetsSeq PySem.MeetsSeq2 PySem.MeetsSeq3
end
section
variable{prog:Program}{w:World}{A:Around}{E:Value->Shared->Prop}{s:Shared}
theorem cat_tup{t b:Addr}{vs ws:List Value}{Q:Value->Shared->Prop}(ht:IsTup s.heap t vs.toArray)(hb:IsTup s.heap b ws.toArray)(hv:vs≠[])
  (h1:ws=[]->Q (.ref t) s) (h2:ws≠[]->Q (.ref s.heap.objs.size) { s with heap:=s.heap.push { cls:=.type "tuple",data:=.seq (vs++ws).toArray } })
  (hsz:vs.length+ws.length<=sizeLine):wpAny (model prog w) A (binaryOp .Add (.ref t) (.ref b)) Q E s:=by
 obtain⟨⟨cls,dd,data,sl⟩,ho,hc,n,hd⟩:=id ht
 obtain⟨⟨cls2,dd2,data2,sl2⟩,ho2,hc2,n2,hd2⟩:=id hb
 simp only at hc hd hc2 hd2
 subst hc hd hc2 hd2
 have e:vs.toArray++ws.toArray=(vs++ws).toArray:=by simp
 by_cases hw:ws=[]
 ·exact concat_meets ⟨_,ho,rfl⟩ ⟨_,ho2,rfl⟩ noFill_tuple_add seq_tuple_add PySem.F.slot_tuple_add PySem.F.entry_tuple_add (PySem.F.args_tuple_add_2 _ _)
   (tuple_addW1 t b vs.toArray ws.toArray n n2 dd dd2 sl sl2 (by simpa using hv) (by simp[hw])) ⟨ho,ho2,h1 hw⟩
 ·refine concat_meets ⟨_,ho,rfl⟩ ⟨_,ho2,rfl⟩ noFill_tuple_add seq_tuple_add PySem.F.slot_tuple_add PySem.F.entry_tuple_add (PySem.F.args_tuple_add_2 _ _)
   (tuple_addW2 t b vs.toArray ws.toArray n n2 dd dd2 sl sl2 (by simpa using hv) (by simpa using hw) (by rw[List.size_toArray,List.size_toArray];exact hsz)) ⟨ho,ho2,?_⟩
  rw[e]
  exact h2 hw
noncomputable def sIx(n d:Nat):Option Int->Nat
 |none=>d
 |some v=>if v<0 then(v+(n:Int)).toNat else min v.toNat n
theorem sIx_none(n d:Nat):sIx n d none=d:=rfl
theorem sIx_nat(n d k:Nat):sIx n d (some (k:Int))=min k n:=by
 show(if(k:Int)<0 then((k:Int)+(n:Int)).toNat else min (k:Int).toNat n)=min k n
 rw[if_neg (by lia),Int.toNat_natCast]
theorem sIx_le(n d:Nat)(hd:d<=n)(o:Option Int):sIx n d o<=n:=by
 cases o with
 |none=>exact hd
 |some v =>
  show(if v<0 then(v+(n:Int)).toNat else min v.toNat n)<=n
  by_cases hv:v<0
  ·rw[if_pos hv];lia
  ·rw[if_neg hv];exact Nat.min_le_right _ _
theorem clip_eq(v:Int)(n d:Nat):(if v<0 then max (v+(n:Int)) 0 else min v (n:Int))=((sIx n d (some v):Nat):Int):=by
 show(if v<0 then max (v+(n:Int)) 0 else min v (n:Int))=(((if v<0 then(v+(n:Int)).toNat else min v.toNat n):Nat):Int)
 by_cases hv:v<0
 ·simp only[if_pos hv];lia
 ·simp only[if_neg hv];lia
theorem adjust_gen(lo hi:Option Int)(n:Nat):Builtin.Slice.sliceAdjust lo hi 1 (n:Int)=(((sIx n 0 lo:Nat):Int),((sIx n n hi:Nat):Int)):=by
 have h1:¬((1:Int)<0):=by lia
 unfold Builtin.Slice.sliceAdjust
 simp only[h1,if_false]
 refine Prod.ext ?_ ?_
 ·cases lo with
  |none=>rfl
  |some v=>exact clip_eq v n 0
 ·cases hi with
  |none=>rfl
  |some v=>exact clip_eq v n n
theorem places_gen(i j:Nat):Builtin.Slice.slicePlaces (i:Int) (j:Int) 1=j-i:=by
 unfold Builtin.Slice.slicePlaces
 have h1:(1:Int) > 0:=by lia
 simp only[h1,if_true,Int.ediv_one]
 split <;> lia
theorem slicePart_{v:Value}{o:Option Int}{Q:Option Int->Shared->Prop}(p:IsPart v o)(h:Q o s):wpAny (model prog w) A (Builtin.Slice.slicePartIndex v) Q E s:=by
 cases p with
 |none=>exact slicePart_none h
 |int i t=>exact slicePart_int h
theorem sliceApplied_gen{sl:Addr}{vl vu:Value}{lo hi:Option Int}{n:Nat}{Q:Int×Int×Nat->Shared->Prop}(hs:s.heap.IsSliceOf sl vl vu .none)(pl:IsPart vl lo)(pu:IsPart vu hi)
  (h:Q (((sIx n 0 lo:Nat):Int),1,sIx n n hi-sIx n 0 lo) s):wpAny (model prog w) A (Builtin.Slice.sliceApplied (.ref sl) (pure (n:Int))) Q E s:=by
 obtain⟨os,hos,hcs,hds⟩:=id hs
 unfold Builtin.Slice.sliceApplied Builtin.Slice.sliceFields
 refine wpAny_bind (wpAny_bind (wpAny_field hos hds (x:=vl) rfl (wpAny_bind (wpAny_field hos hds (x:=vu) rfl (wpAny_bind (wpAny_field hos hds (x:=.none) rfl (wpAny_pure ?_)))))))
 refine wpAny_bind (slicePart_none ?_)
 show wpAny _ _ (if((1:Int) == 0)=true then _ else _) _ _ s
 rw[if_neg (by decide)]
 refine wpAny_bind (slicePart_ pl (wpAny_bind (slicePart_ pu (wpAny_bind (wpAny_pure ?_)))))
 show wpAny _ _ (match Builtin.Slice.sliceAdjust lo hi 1 (n:Int)with |(lo,hi)=>pure (lo,(1:Int),Builtin.Slice.slicePlaces lo hi 1)) _ _ s
 rw[adjust_gen lo hi n]
 show wpAny _ _ (pure (((sIx n 0 lo:Nat):Int),(1:Int),Builtin.Slice.slicePlaces ((sIx n 0 lo:Nat):Int) ((sIx n n hi:Nat):Int) 1)) _ _ s
 rw[places_gen]
 exact wpAny_pure h
theorem pick_gen(xs:Array Value)(i k:Nat):((List.range k).filterMap fun(m:Nat)=>xs[((i:Int)+(m:Int) * 1).toNat]?).toArray=((xs.toList.drop i).take k).toArray:=by
 have e:(fun(m:Nat)=>xs[((i:Int)+(m:Int) * 1).toNat]?)=fun m=>xs[i+m]?:=by
  funext m
  have:((i:Int)+(m:Int) * 1).toNat=i+m:=by lia
  rw[this]
 rw[e]
 have:=pick_run xs i k
 rw[List.filterMap_map]at this
 have e2:((fun x=>xs[x]?) ∘ fun x=>i+x)=fun m=>xs[i+m]?:=rfl
 rw[e2]at this
 rw[this]
theorem getItem_tuple_cut{t sl:Addr}{items:Array Value}{vl vu:Value}{lo hi:Option Int}{Q:Value->Shared->Prop}(ht:IsTup s.heap t items)(hs:s.heap.IsSliceOf sl vl vu .none)(pl:IsPart vl lo)(pu:IsPart vu hi)
  (hw:¬(sIx items.size 0 lo=0/\sIx items.size items.size hi=items.size))
  (h:Q (.ref s.heap.objs.size) { s with heap:=s.heap.push { cls:=.type "tuple",data:=.seq ((items.toList.drop (sIx items.size 0 lo)).take (sIx items.size items.size hi-sIx items.size 0 lo)).toArray } })
  (hsz:items.size<=sizeLine):wpAny (model prog w) A (getItem (.ref t) (.ref sl)) Q E s:=by
 have htake:sizeOk (.seq ((items.toList.drop (sIx items.size 0 lo)).take (sIx items.size items.size hi-sIx items.size 0 lo)).toArray):=by
  show((items.toList.drop (sIx items.size 0 lo)).take (sIx items.size items.size hi-sIx items.size 0 lo)).toArray.size<=sizeLine
  rw[List.size_toArray,List.length_take,List.length_drop,Array.length_toList]
  omega
 have hj:sIx items.size items.size hi<=items.size:=sIx_le _ _ (Nat.le_refl _) hi
 obtain⟨os,hos,hcs,hds⟩:=id hs
 have hTs:s.TypeIs (.ref sl) "slice":=⟨os,hos,hcs⟩
 unfold getItem
 try with_reducible refine wpAny_holding ?_
 first | refine wpAny_bind (wpAny_pure ?_) | skip
 refine wpAny_bind (wpAny_sequenceKey ht.typeIs (by decide) ?_)
 refine wpAny_bind (wpAny_callSpecial?_slot (name:=Str.ofString "__getitem__") ht.typeIs PyProof.Rows.slot_tuple_getitem
  (wpAny_call_entry PyProof.Rows.slot_tuple_getitem ht.typeIs entry_tuple_getitem ?_ (args_tuple_getitem _ _)))
 show wpAny _ _ (Builtin.Tuple.tupleItemsOf (.ref t) >>= _) _ _ s
 refine wpAny_bind (tupleItemsOf_ ht ?_)
 refine wpAny_bind (wpAny_typeOf hTs ?_)
 rw[if_pos (by decide)]
 refine wpAny_bind (sliceApplied_gen hs pl pu ?_)
 have hno:¬((((sIx items.size 0 lo:Nat):Int) == 0 && (1:Int) == 1 && (sIx items.size items.size hi-sIx items.size 0 lo) == items.size)=true):=by
  intro q
  rw[Bool.and_eq_true,Bool.and_eq_true]at q
  have q1:((sIx items.size 0 lo:Nat):Int)=0:=eq_of_beq q.1.1
  have q2:sIx items.size items.size hi-sIx items.size 0 lo=items.size:=eq_of_beq q.2
  exact hw ⟨by lia,by omega⟩
 show wpAny _ _ (if(((sIx items.size 0 lo:Nat):Int) == 0 && (1:Int) == 1 && (sIx items.size items.size hi-sIx items.size 0 lo) == items.size)=true then _ else _) _ _ s
 rw[if_neg hno,pick_gen]
 first
  |exact wpAny_bind (m:=Builtin.Tuple.tupleExact _) (wpAny_newObj_type (wpAny_pure ⟨_,rfl,wpAny_pure h⟩) htake)
  |exact wpAny_bind (m:=Builtin.Tuple.tupleExact _) (wpAny_newObj_type (wpAny_bind (wpAny_pure (wpAny_pure ⟨_,rfl,wpAny_pure h⟩))) htake)
  |exact wpAny_bind (wpAny_bind (m:=Builtin.Tuple.tupleExact _) (wpAny_newObj_type (wpAny_pure (wpAny_pure ⟨_,rfl,wpAny_pure h⟩)) htake))
  |exact wpAny_bind (wpAny_bind (m:=Builtin.Tuple.tupleExact _) (wpAny_newObj_type (wpAny_pure ⟨_,rfl,wpAny_pure h⟩) htake))
end
end HT
namespace L2
open PySem PySem.Spec PyProof.Rows
noncomputable abbrev TO:=St->Hp->(Option Int->Hp->Prop)->Prop
noncomputable def PO(X:Cx)(e:Option Expr)(t:TO):Prop :=
 ∀ (pins:List (Addr×Obj)) (s:Shared) (σ:St) (H:Hp) (Q:Option Int->Hp->Prop),Inv X pins σ H s->t σ H Q ->
  wpAny (model X.prog X.w) X.A (evalPart e X.env) (fun u s'=>∃ o H',Inv X pins σ H' s'/\IsPart u o/\Q o H') X.xe s
noncomputable def tNoPart:TO:=fun _ H Q=>Q none H
noncomputable def tPart(t:TE):TO:=fun σ H Q=>t σ H fun x H1=>∃ i,x = .int i/\Q (some i) H1
theorem intsAre_of{ns:List Int}:∀ {us:List Value},Vals (ns.map V.int) us->IntsAre us ns:=by
 induction ns with
 |nil=>intro us r;rw[List.map_nil]at r;cases r;exact .nil
 |cons n ns ih =>
  intro us r
  rw[List.map_cons]at r
  cases r with
  |cons r1 r2 =>
   obtain⟨t,e⟩:=r1
   subst e
   exact .cons n t (ih r2)
section
variable{X:Cx}{e:Expr}{te:TE}{lo hi:Option Expr}{tl th:TO}{pos p2:Pos}
theorem po_none:PO X none tNoPart:=by
 intro pins s σ H Q I h
 rw[evalPart_none]
 exact wpAny_pure ⟨none,H,I,.none,h⟩
theorem po_some(h:PE X e te):PO X (some e) (tPart te):=by
 intro pins s σ H Q I hw
 rw[evalPart_some]
 refine thn (h pins s σ H _ I hw) fun u s1 ⟨x,H1,I1,r1,q1⟩=>?_
 obtain⟨i,rfl,q⟩:=q1
 obtain⟨t,rfl⟩:=r1
 exact⟨some i,H1,I1,.int i t,q⟩
noncomputable def SlR(X:Cx)(r:V->Option Int->Option Int->Hp->VK->Prop):Prop :=
 ∀ (pins:List (Addr×Obj)) (s:Shared) (σ:St) (H:Hp) (x:V) (v vl vu:Value) (lo hi:Option Int) (sl:Addr) (Q:VK),Inv X pins σ H s->RelV x v->s.heap.IsSliceOf sl vl vu .none->IsPart vl lo->IsPart vu hi->r x lo hi H Q ->
  ∃ T id,typeLookup (.type T) "__getitem__" = pure (some (.builtin id))/\s.TypeIs v T/\wpAny (model X.prog X.w) X.A (getItem v (.ref sl)) (EP X pins σ Q) X.xe s
noncomputable def tSl(r:V->Option Int->Option Int->Hp->VK->Prop)(te:TE)(tl th:TO):TE:=fun σ H Q=>te σ H fun x H1=>tl σ H1 fun l H2=>th σ H2 fun u H3=>r x l u H3 Q
theorem pe_slice{r:V->Option Int->Option Int->Hp->VK->Prop}(hr:SlR X r)(he:PE X e te)(hl:PO X lo tl)(hu:PO X hi th):PE X (.Subscript e (.Slice lo hi none p2) pos) (tSl r te tl th):=by
 intro pins s σ H Q I h
 refine Subscript_ (thn (he pins s σ H _ I h) fun v s1 ⟨x,H1,I1,r1,q1⟩=>?_)
 refine wpAny_Slice (thn (hl pins s1 σ H1 _ I1 q1) fun vl s2 ⟨l,H2,I2,pl,q2⟩=>thn (hu pins s2 σ H2 _ I2 q2) fun vu s3 ⟨u,H3,I3,pu,q3⟩=>?_)
 rw[evalPart_none]
 refine wpAny_pure ?_
 have I4:Inv X pins σ H3 { s3 with heap:=s3.heap.push { cls:=.type "slice",data:=.fields #[vl,vu,.none] } }:=I3.kept (t':=s3.toks) fun b ob q=>Heap.get?_push_of_some _ q
 obtain⟨T,id,hT,ht,hg⟩:=hr pins { s3 with heap:=s3.heap.push { cls:=.type "slice",data:=.fields #[vl,vu,.none] } } σ H3 x v vl vu l u s3.heap.objs.size Q I4 r1 (Heap.IsSliceOf.new ..) pl pu q3
 show wpAny (model X.prog X.w) X.A (subscriptTail e (.Slice lo hi none p2) v (.ref s3.heap.objs.size)) (EP X pins σ Q) X.xe { s3 with heap:=s3.heap.push { cls:=.type "slice",data:=.fields #[vl,vu,.none] } }
 exact tail_any (ops:=[.ref s3.heap.objs.size,v]) ht hT hg (by with_unfolding_all rfl)
noncomputable def cutV(xs:List V)(lo hi:Option Int):List V:=(xs.drop (HT.sIx xs.length 0 lo)).take (HT.sIx xs.length xs.length hi-HT.sIx xs.length 0 lo)
theorem cutV_length(xs:List V)(lo hi:Option Int):(cutV xs lo hi).length<=xs.length:=by
 unfold cutV
 rw[List.length_take,List.length_drop]
 omega
inductive rSlTI(K:PySem.W.Frag)(x:V)(lo:Option Int)(hi:Option Int)(H:Hp)(Q:VK):Prop where
 |mk (a:_) (xs:_) (h1:x = .ref a) (h2:SqT K H a xs) (h3:¬(HT.sIx xs.length 0 lo=0/\HT.sIx xs.length xs.length hi=xs.length)) (h4:∀ p,H p=none->Q (.ref p) (upd H p (.tup (cutV xs lo hi))))
noncomputable def rSlT(K:PySem.W.Frag):V->Option Int->Option Int->Hp->VK->Prop:=fun x lo hi H Q=>rSlTI K x lo hi H Q
theorem sl_tup:SlR X (rSlT X.K):=by
 intro pins s σ H x v vl vu lo hi sl Q I rx hs pl pu h
 obtain⟨a,xs,rfl,hx,hw,q⟩:=h
 cases rx
 obtain⟨its,r,ht,hz⟩:=I.tuple hx
 have hlen:its.toArray.size=xs.length:=by rw[List.size_toArray];exact r.length.symm
 refine⟨"tuple",_,PyProof.Rows.slot_tuple_getitem.lookup,ht.typeIs,?_⟩
 refine HT.getItem_tuple_cut ht hs pl pu (by rw[hlen];exact hw) ?_ (by rw[hlen];exact hz)
 rw[hlen]
 refine⟨.ref s.heap.objs.size,_,I.laid (t':=s.toks) (o:=.tup (cutV xs lo hi)) (fun b ob q=>Heap.get?_push_of_some _ q) (Nat.le_refl _) ?_,rfl,q _ (I.hok.fresh (Nat.le_refl _))⟩
 exact⟨Nat.le_trans (cutV_length xs lo hi) hz,_,(r.drop (HT.sIx xs.length 0 lo)).take (HT.sIx xs.length xs.length hi-HT.sIx xs.length 0 lo),IsTup.new _ _⟩
noncomputable def rCatT(K:PySem.W.Frag):R2:=fun x y H Q=>∃ a b xs ys,x = .ref a/\y = .ref b/\SqT K H a xs/\SqT K H b ys/\xs≠[]/\xs.length+ys.length<=sizeLine /\
 (ys=[]->Q (.ref a) H)/\(ys≠[]->∀ p,H p=none->Q (.ref p) (upd H p (.tup (xs++ys))))
theorem Vals.nil_iff{xs:List V}{us:List Value}(r:Vals xs us):us=[]↔xs=[]:=by
 cases r with
 |nil=>simp
 |cons _ _=>simp
theorem op_catT:OpR X (binaryOp .Add) (rCatT X.K):=by
 intro pins s σ H x y v u Q I rx ry h
 obtain⟨a,b,xs,ys,rfl,rfl,ha,hb,hx,hz,q1,q2⟩:=h
 cases rx
 cases ry
 obtain⟨its,r1,p1,_⟩:=I.tuple ha
 obtain⟨its2,r2,p2,_⟩:=I.tuple hb
 refine HT.cat_tup p1 p2 (fun z=>hx (r1.nil_iff.mp z)) (fun z=>⟨.ref a,H,I,rfl,q1 (r2.nil_iff.mp z)⟩) (fun z=>?_) (by rw[<- r1.length,<- r2.length];exact hz)
 refine⟨.ref s.heap.objs.size,_,I.laid (t':=s.toks) (o:=.tup (xs++ys)) (fun b ob q=>Heap.get?_push_of_some _ q) (Nat.le_refl _) ?_,rfl,q2 (fun w=>z (r2.nil_iff.mpr w)) _ (I.hok.fresh (Nat.le_refl _))⟩
 exact⟨by rw[List.length_append];exact hz,_,r1.append r2,IsTup.new _ _⟩
end
open PySem PySem.Spec PyProof.Rows
noncomputable def ixN(n:Nat)(i:Int):Option Nat:=if 0<=i then(if i<n then some i.toNat else none)else if -(n:Int)<=i then some (i+n).toNat else none
noncomputable def atI{α:Type}(xs:List α)(i:Int):Option α:=(ixN xs.length i).bind fun j=>xs[j]?
theorem ixN_seq{n:Nat}{i:Int}{j:Nat}(h:ixN n i=some j):seqIndex? i n=some j/\j<n/\-(n:Int)<=i/\i<n:=by
 unfold ixN at h
 by_cases h0:0<=i
 ·rw[if_pos h0]at h
  by_cases h1:i<n
  ·rw[if_pos h1]at h
   have e:i.toNat=j:=Option.some.inj h
   exact⟨by rw[seqIndex_of h0 h1,e],by omega,by lia,h1⟩
  ·rw[if_neg h1]at h;cases h
 ·rw[if_neg h0]at h
  by_cases h1:-(n:Int)<=i
  ·rw[if_pos h1]at h
   have e:(i+n).toNat=j:=Option.some.inj h
   exact⟨by rw[seqIndex_neg (by lia) h1,e],by lia,h1,by lia⟩
  ·rw[if_neg h1]at h;cases h
theorem atI_get{α:Type}{xs:List α}{i:Int}{v:α}(h:atI xs i=some v):∃ j,seqIndex? i xs.length=some j/\xs[j]?=some v/\j<xs.length/\-(xs.length:Int)<=i/\i<xs.length:=by
 unfold atI at h
 cases e:ixN xs.length i with
 |none=>rw[e]at h;cases h
 |some j =>
  rw[e]at h
  obtain⟨h1,h2,h3,h4⟩:=ixN_seq e
  exact⟨j,h1,h,h2,h3,h4⟩
theorem atI_nat{α:Type}{xs:List α}{j:Nat}{v:α}(h:xs[j]?=some v):atI xs (j:Int)=some v:=by
 have hj:j<xs.length:=(List.getElem?_eq_some_iff.mp h).1
 have e:ixN xs.length (j:Int)=some j:=by
  unfold ixN
  rw[if_pos (by lia),if_pos (by lia)];simp
 unfold atI;rw[e];exact h
noncomputable def PlainIx(b:Expr):Prop:=∀ o i,subscripted b false o i=operate [o,i] (getItem o i)
noncomputable def IxR(X:Cx)(r:R2):Prop :=
 ∀ (value slice:Expr) (pins:List (Addr×Obj)) (s:Shared) (σ:St) (H:Hp) (x y:V) (v u:Value) (Q:VK),Inv X pins σ H s->RelV x v->RelV y u->r x y H Q ->
  subscripted slice false v u=operate [v,u] (getItem v u)->wpAny (model X.prog X.w) X.A (subscriptTail value slice v u) (EP X pins σ Q) X.xe s
noncomputable def MtR(X:Cx)(id:String)(r:V->List V->Hp->VK->Prop):Prop :=
 ∀ (pins:List (Addr×Obj)) (s:Shared) (σ:St) (H:Hp) (x:V) (xs:List V) (v:Value) (us:List Value) (Q:VK),Inv X pins σ H s->RelV x v->Vals xs us->r x xs H Q ->
  wpAny (model X.prog X.w) X.A (call (.builtin id) (v :: us)) (EP X pins σ Q) X.xe s
section
variable{X:Cx}{a b:Expr}{ta tb:TE}{pos:Pos}
theorem pe_ix{r:R2}(hr:IxR X r)(ha:PE X a ta)(hb:PE X b tb)(hs:PlainIx b):PE X (.Subscript a b pos) (tOp r ta tb):=by
 intro pins s σ H Q I h
 exact Subscript_ (binT ha hb I h fun v u s2 x y H2 I2 rx ry q=>hr a b pins s2 σ H2 x y v u Q I2 rx ry q (hs _ _))
inductive rIxLI(K:PySem.W.Frag)(x:V)(y:V)(H:Hp)(Q:VK):Prop where
 |mk (p:_) (xs:_) (i:_) (v:_) (h1:x = .ref p) (h2:y = .int i) (h3:SqL K H p xs) (h4:atI xs i=some v) (h5:Q v H)
noncomputable def rIxL(K:PySem.W.Frag):R2:=fun x y H Q=>rIxLI K x y H Q
inductive rIxTI(K:PySem.W.Frag)(x:V)(y:V)(H:Hp)(Q:VK):Prop where
 |mk (p:_) (xs:_) (i:_) (v:_) (h1:x = .ref p) (h2:y = .int i) (h3:SqT K H p xs) (h4:atI xs i=some v) (h5:Q v H)
noncomputable def rIxT(K:PySem.W.Frag):R2:=fun x y H Q=>rIxTI K x y H Q
theorem ix_list:IxR X (rIxL X.K):=by
 intro value slice pins s σ H x y v u Q I rx ry h hs
 obtain⟨p,xs,i,z,rfl,rfl,hq,he,q⟩:=h
 cases rx
 obtain⟨t,rfl⟩:=ry
 obtain⟨its,r,pl,hz⟩:=I.list hq
 obtain⟨j,h1,h2,h3,h4,h5⟩:=atI_get he
 obtain⟨w,ew,rw'⟩:=r.get h2
 have hl:=r.length
 have hn:=line63
 have fin:EP X pins σ Q w s:=⟨z,H,I,rw',q⟩
 by_cases h0:0<=i
 ·have hj:i.toNat=j:=by
   rw[seqIndex_of h0 h5]at h1
   exact Option.some.inj h1
  exact item_listR pl.isList h0 (by lia) (by rw[hj];simpa using ew) fin hs
 ·have hj:(i+(its.toArray.size:Int)).toNat=j:=by
   rw[seqIndex_neg (by lia) h4]at h1
   rw[List.size_toArray,<- hl]
   exact Option.some.inj h1
  exact subscriptTail_builtinR (x:=w) pl.isList.typeIs slot_list_getitem.lookup
   (wpAny_getItem_list_neg (Q:=fun r s'=>r=w/\EP X pins σ Q r s') pl.isList (by lia) (by rw[List.size_toArray] <;> lia) (by lia) (by rw[hj];simpa using ew) ⟨rfl,fin⟩) hs
theorem ix_tup:IxR X (rIxT X.K):=by
 intro value slice pins s σ H x y v u Q I rx ry h hs
 obtain⟨p,xs,i,z,rfl,rfl,hq,he,q⟩:=h
 cases rx
 obtain⟨t,rfl⟩:=ry
 obtain⟨its,r,pl,hz⟩:=I.tuple hq
 obtain⟨j,h1,h2,h3,h4,h5⟩:=atI_get he
 obtain⟨w,ew,rw'⟩:=r.get h2
 have hl:=r.length
 have hn:=line63
 have fin:EP X pins σ Q w s:=⟨z,H,I,rw',q⟩
 exact subscriptTail_builtinR (x:=w) pl.typeIs slot_tuple_getitem.lookup
  (getItem_tuple (j:=j) (Q:=fun r s'=>r=w/\EP X pins σ Q r s') pl (by lia) (by lia) (by rw[List.size_toArray,<- hl];exact h1) (by simpa using ew) ⟨rfl,fin⟩) hs
theorem mapSeq_set(its:List Value)(n j:Nat)(u:Value):Obj.mapSeq (·.setIfInBounds j u) { cls:=.type "list",data:=.seq its.toArray n } = { cls:=.type "list",data:=.seq (its.set j u).toArray n }:=by
 simp[Obj.mapSeq]
theorem Inv.lst{pins:List (Addr×Obj)}{σ:St}{H:Hp}{s:Shared}{p:Addr}{xs:List V}(I:Inv X pins σ H s)(h:H p=some (.lst xs)) :
  ∃ (its:List Value) (n:Nat),Vals xs its/\s.heap.get? p=some { cls:=.type "list",data:=.seq its.toArray n }/\xs.length<=sizeLine:=by
 obtain⟨z,its,n,r,e⟩:=I.hok p _ h
 exact⟨its,n,r,e,z⟩
theorem Inv.lstUpd{pins:List (Addr×Obj)}{σ:St}{H:Hp}{s:Shared}{p:Addr}{xs ys:List V}{its its':List Value}{n n':Nat}{f:Obj->Obj}(I:Inv X pins σ H s)(h:H p=some (.lst xs))
  (ho:s.heap.get? p=some { cls:=.type "list",data:=.seq its.toArray n }) (hf:f { cls:=.type "list",data:=.seq its.toArray n } = { cls:=.type "list",data:=.seq its'.toArray n' }) (r:Vals ys its') (hz:ys.length<=sizeLine) (t:Nat) :
  Inv X pins σ (upd H p (.lst ys)) { s with heap:=s.heap.update p f,toks:=t }:=by
 have e:(s.heap.update p f).get? p=some { cls:=.type "list",data:=.seq its'.toArray n' }:=by
  rw[Heap.get?_update_self f ho (by rw[hf] <;> rfl),hf]
 refine I.write (x:=p) (e:=p) (by rw[h];trivial) (.inl rfl) (fun b u hb q=>(Heap.get?_update_other _ _ (Ne.symm hb)).trans q) ⟨_,e⟩ ?_
 exact⟨hz,its',n',r,e⟩
inductive rSetLI(o:V)(i:V)(v:V)(H:Hp)(Q:Hp->Prop):Prop where
 |mk (p:_) (xs:_) (k:_) (j:_) (h1:o = .ref p) (h2:i = .int k) (h3:H p=some (.lst xs)) (h4:ixN xs.length k=some j) (h5:Q (upd H p (.lst (xs.set j v))))
noncomputable def rSetL:V->V->V->Hp->(Hp->Prop)->Prop:=fun o i v H Q=>rSetLI o i v H Q
theorem set_list:PSet X rSetL:=by
 intro pins s σ H o i v ov iv u Q I ro ri rv h
 obtain⟨p,xs,k,j,rfl,rfl,hp,hj,q⟩:=h
 cases ro
 obtain⟨t,rfl⟩:=ri
 obtain⟨its,n,r,ho,hz⟩:=I.lst hp
 obtain⟨h1,h2,h3,h4⟩:=ixN_seq hj
 have hl:=r.length
 have hn:=line63
 have I':Inv X pins σ (upd H p (.lst (xs.set j v))) { s with heap:=s.heap.update p (Obj.mapSeq (·.setIfInBounds j u)) } :=
  I.lstUpd hp ho (mapSeq_set its n j u) (r.set rv j) (by rw[List.length_set];exact hz) s.toks
 by_cases h0:0<=k
 ·have hk:k.toNat=j:=by
   rw[seqIndex_of h0 h4]at h1
   exact Option.some.inj h1
  exact PySem.W.ki_setAt ho h0 (by lia) (by rw[List.size_toArray,<- hl];exact h4) (by rw[hk];exact⟨_,I',q⟩)
 ·have hk:(k+(its.toArray.size:Int)).toNat=j:=by
   rw[seqIndex_neg (by lia) h3]at h1
   rw[List.size_toArray,<- hl]
   exact Option.some.inj h1
  exact PySem.W.ki_setBack ho (by lia) (by rw[List.size_toArray,<- hl];exact h3) (by lia) (by rw[hk];exact⟨_,I',q⟩)
theorem slice_bounds(lo hi:Option Int)(n:Nat):(sliceBounds lo hi none n).1=((HT.sIx n 0 lo:Nat):Int)/\(sliceBounds lo hi none n).2.1=((HT.sIx n n hi:Nat):Int)/\(sliceBounds lo hi none n).2.2=1:=by
 refine⟨?_,?_,rfl⟩
 ·cases lo with
  |none=>simp[sliceBounds,HT.sIx]
  |some i =>
   simp only[sliceBounds,HT.sIx,Option.getD_none,show(1:Int) > 0 by decide,if_true]
   by_cases h:i<0
   ·simp only[h,if_true] <;> lia
   ·simp only[h,if_false] <;> lia
 ·cases hi with
  |none=>simp[sliceBounds,HT.sIx]
  |some i =>
   simp only[sliceBounds,HT.sIx,Option.getD_none,show(1:Int) > 0 by decide,if_true]
   by_cases h:i<0
   ·simp only[h,if_true] <;> lia
   ·simp only[h,if_false] <;> lia
theorem slicePick_cut(its:List Value)(lo hi:Option Int):slicePick its.toArray lo hi none=((its.drop (HT.sIx its.length 0 lo)).take (HT.sIx its.length its.length hi-HT.sIx its.length 0 lo)).toArray:=by
 obtain⟨h1,h2,h3⟩:=slice_bounds lo hi its.toArray.size
 unfold slicePick
 rw[h1,h2,h3]
 simp only[sliceRange_one,pick_run,List.size_toArray] <;> rfl
inductive rSlLI(K:PySem.W.Frag)(x:V)(lo:Option Int)(hi:Option Int)(H:Hp)(Q:VK):Prop where
 |mk (a:_) (xs:_) (h1:x = .ref a) (h2:SqL K H a xs) (h3:∀ p,H p=none->Q (.ref p) (upd H p (.lst (cutV xs lo hi))))
noncomputable def rSlL(K:PySem.W.Frag):V->Option Int->Option Int->Hp->VK->Prop:=fun x lo hi H Q=>rSlLI K x lo hi H Q
theorem sl_list:SlR X (rSlL X.K):=by
 intro pins s σ H x v vl vu lo hi sl Q I rx hs pl pu h
 obtain⟨a,xs,rfl,hx,q⟩:=h
 cases rx
 obtain⟨its,r,ht,hz⟩:=I.list hx
 have hlen:=r.length
 refine⟨"list",_,slot_list_getitem.lookup,ht.isList.typeIs,?_⟩
 refine wpAny_getItem_list_slice ht.isList hs pl pu .none (by simp) ?_ (by rw[List.size_toArray] <;> lia)
 rw[slicePick_cut,<- hlen]
 refine⟨.ref s.heap.objs.size,_,I.laid (t':=s.toks) (o:=.lst (cutV xs lo hi)) (fun b ob q=>Heap.get?_push_of_some _ q) (Nat.le_refl _) ?_,rfl,q _ (I.hok.fresh (Nat.le_refl _))⟩
 exact⟨Nat.le_trans (cutV_length xs lo hi) hz,_,0,(r.drop (HT.sIx xs.length 0 lo)).take (HT.sIx xs.length xs.length hi-HT.sIx xs.length 0 lo),Heap.get?_push_size _ rfl⟩
noncomputable def flatV:V->Bool
 | .non=>true
 | .bl _=>true
 | .int _=>true
 | .str _=>true
 | _=>false
noncomputable def eqV:V->V->Bool
 | .non,.non=>true
 | .bl a,.bl b=>a == b
 | .bl a,.int b=>(if a then 1 else 0) == b
 | .int a,.bl b=>a ==(if b then 1 else 0)
 | .int a,.int b=>a == b
 | .str a,.str b=>a == b
 | _,_=>false
theorem eqAt_V{A:Around}{s:Shared}{y x:V}{u v:Value}(ry:RelV y u)(rx:RelV x v)(fy:flatV y=true)(fx:flatV x=true):SeqAt.EqAt A s u v (eqV y x):=by
 cases y with
 |non =>
  cases ry
  cases x with
  |non=>cases rx;exact SeqAt.EqAt.same _
  |bl b=>cases rx;exact SeqAt.EqAt.none_bool b
  |int b=>obtain⟨t,rfl⟩:=rx;exact SeqAt.EqAt.none_int b t
  |str b=>obtain⟨t,rfl⟩:=rx;exact SeqAt.EqAt.none_str b t
  | _=>exact absurd (show false=true from fx) Bool.false_ne_true
 |bl a =>
  cases ry
  cases x with
  |non=>cases rx;exact SeqAt.EqAt.bool_none a
  |bl b=>cases rx;exact SeqAt.EqAt.bool_bool a b
  |int b=>obtain⟨t,rfl⟩:=rx;exact SeqAt.EqAt.bool_int a b t
  |str b=>obtain⟨t,rfl⟩:=rx;exact SeqAt.EqAt.bool_str a b t
  | _=>exact absurd (show false=true from fx) Bool.false_ne_true
 |int a =>
  obtain⟨t',rfl⟩:=ry
  cases x with
  |non=>cases rx;exact SeqAt.EqAt.int_none a t'
  |bl b=>cases rx;exact SeqAt.EqAt.int_bool a t' b
  |int b=>obtain⟨t,rfl⟩:=rx;exact SeqAt.EqAt.int_int a t' b t
  |str b=>obtain⟨t,rfl⟩:=rx;exact SeqAt.EqAt.int_str a t' b t
  | _=>exact absurd (show false=true from fx) Bool.false_ne_true
 |str a =>
  obtain⟨t',rfl⟩:=ry
  cases x with
  |non=>cases rx;exact SeqAt.EqAt.str_none a t'
  |bl b=>cases rx;exact SeqAt.EqAt.str_bool a t' b
  |int b=>obtain⟨t,rfl⟩:=rx;exact SeqAt.EqAt.str_int a t' b t
  |str b=>obtain⟨t,rfl⟩:=rx;exact SeqAt.EqAt.str_str a t' b t
  | _=>exact absurd (show false=true from fx) Bool.false_ne_true
 | _=>exact absurd (show false=true from fy) Bool.false_ne_true
noncomputable def eqU(x:V)(u:Value):Bool:=match u with
 | .none=>eqV .non x
 | .bool b=>eqV (.bl b) x
 | .int i _=>eqV (.int i) x
 | .str z _=>eqV (.str z) x
 | _=>false
theorem eqU_of{x y:V}{u:Value}(r:RelV y u)(f:flatV y=true):eqU x u=eqV y x:=by
 cases y with
 |non=>cases r;rfl
 |bl b=>cases r;rfl
 |int i=>obtain⟨t,rfl⟩:=r;rfl
 |str z=>obtain⟨t,rfl⟩:=r;rfl
 | _=>exact absurd (show false=true from f) Bool.false_ne_true
theorem any_eqU{x:V}:∀ {xs:List V}{us:List Value},Vals xs us->xs.all flatV=true->us.any (eqU x)=xs.any fun y=>eqV y x
 | _,_,.nil,_=>rfl
 |y :: xs,u :: us,.cons r t,f=>by
  rw[List.all_cons,Bool.and_eq_true]at f
  rw[List.any_cons,List.any_cons,eqU_of r f.1,any_eqU t f.2]
theorem mem_eqAt{A:Around}{s:Shared}{x:V}{v:Value}(rx:RelV x v)(fx:flatV x=true):∀ {xs:List V}{us:List Value},Vals xs us->xs.all flatV=true->∀ u∈us,SeqAt.EqAt A s u v (eqU x u)
 | _,_,.nil,_=>fun u hu=>by cases hu
 |y :: xs,u :: us,.cons r t,f=>fun u' hu=>by
  rw[List.all_cons,Bool.and_eq_true]at f
  rcases List.mem_cons.mp hu with rfl | hu
  ·rw[eqU_of r f.1];exact eqAt_V r rx f.1 fx
  ·exact mem_eqAt rx fx t f.2 u' hu
noncomputable def inV(x:V)(xs:List V):Bool:=xs.any fun y=>eqV y x
inductive rInI(K:PySem.W.Frag)(neg:Bool)(x:V)(y:V)(H:Hp)(Q:VK):Prop where
 |mk (p:_) (xs:_) (h1:y = .ref p) (h2:(SqL K H p xs\/SqT K H p xs)) (h3:flatV x=true) (h4:xs.all flatV=true) (h5:Q (.bl (if neg then !inV x xs else inV x xs)) H)
noncomputable def rIn(K:PySem.W.Frag)(neg:Bool):R2:=fun x y H Q=>rInI K neg x y H Q
theorem op_in_seq:OpR X (compareOp .In) (rIn X.K false):=by
 intro pins s σ H x y v u Q I rx ry h
 obtain⟨p,xs,rfl,hq,fx,fs,q⟩:=h
 cases ry
 rcases hq with hq | hq
 ·obtain⟨its,r,pl,hz⟩:=I.list hq
  refine SeqAt.in_listAt (eqU x) pl.isList (fun w hw=>mem_eqAt rx fx r fs w (by simpa using hw)) ⟨.bl _,H,I,rfl,?_⟩
  rw[show its.toArray.any (eqU x)=its.any (eqU x) by simp,any_eqU r fs]
  exact q
 ·obtain⟨its,r,pl,hz⟩:=I.tuple hq
  refine SeqAt.in_tupleAt (eqU x) pl (fun w hw=>mem_eqAt rx fx r fs w (by simpa using hw)) ⟨.bl _,H,I,rfl,?_⟩
  rw[show its.toArray.any (eqU x)=its.any (eqU x) by simp,any_eqU r fs]
  exact q
theorem op_notIn_seq:OpR X (compareOp .NotIn) (rIn X.K true):=by
 intro pins s σ H x y v u Q I rx ry h
 obtain⟨p,xs,rfl,hq,fx,fs,q⟩:=h
 cases ry
 rcases hq with hq | hq
 ·obtain⟨its,r,pl,hz⟩:=I.list hq
  refine SeqAt.notIn_listAt (eqU x) pl.isList (fun w hw=>mem_eqAt rx fx r fs w (by simpa using hw)) ⟨.bl _,H,I,rfl,?_⟩
  rw[show its.toArray.any (eqU x)=its.any (eqU x) by simp,any_eqU r fs]
  exact q
 ·obtain⟨its,r,pl,hz⟩:=I.tuple hq
  refine SeqAt.notIn_tupleAt (eqU x) pl (fun w hw=>mem_eqAt rx fx r fs w (by simpa using hw)) ⟨.bl _,H,I,rfl,?_⟩
  rw[show its.toArray.any (eqU x)=its.any (eqU x) by simp,any_eqU r fs]
  exact q
theorem call_len_seq:CallR X (.builtin "len") (fun xs H Q=>∃ p ys,xs=[.ref p]/\(SqL X.K H p ys\/SqT X.K H p ys)/\Q (.int ys.length) H):=by
 intro pins s σ H xs us Q I r h
 obtain⟨p,ys,rfl,hq,q⟩:=h
 obtain⟨u,rfl,rx⟩:=vals1 r
 cases rx
 have hn:=line63
 rcases hq with hq | hq
 ·obtain⟨its,r',pl,hz⟩:=I.list hq
  have hlen:=r'.length
  exact Calls.call_len_list pl.isList (by simp only[List.size_toArray] <;> lia) ⟨.int ys.length,H,I.tok _,⟨s.toks+1,by rw[List.size_toArray,hlen]⟩,q⟩
 ·obtain⟨its,r',pl,hz⟩:=I.tuple hq
  have hlen:=r'.length
  exact len_tuple pl (by simp only[List.size_toArray] <;> lia) ⟨.int ys.length,H,I.tok _,⟨s.toks+1,by rw[List.size_toArray,hlen]⟩,q⟩
theorem call_tuple_of:CallR X (.type "tuple") (fun xs H Q=>∃ p ys,xs=[.ref p]/\((SqL X.K H p ys/\∀ l,H l=none->Q (.ref l) (upd H l (.tup ys)))\/(SqT X.K H p ys/\Q (.ref p) H))):=by
 intro pins s σ H xs us Q I r h
 obtain⟨p,ys,rfl,h⟩:=h
 obtain⟨u,rfl,rx⟩:=vals1 r
 cases rx
 rcases h with⟨hq,q⟩ |⟨hq,q⟩
 ·obtain⟨its,r',pl,hz⟩:=I.list hq
  have hlen:=r'.length
  refine call_tuple_list pl.isList (fun h' kp=>?_) (by simp only[List.size_toArray] <;> lia)
  have I1:Inv X pins σ H { s with heap:=h' }:=I.kept (t':=s.toks) kp
  have I2:Inv X pins σ (upd H h'.objs.size (.tup ys)) { s with heap:=h'.push { cls:=.type "tuple",data:=.seq its.toArray } } :=
   I1.laid (t':=s.toks) (fun b o e=>Heap.get?_push_of_some _ e) (Nat.le_refl _) (show ObjOk X.prog X.w _ _ _ (.tup ys)from⟨hz,its,r',IsTup.new _ _⟩)
  exact⟨.ref h'.objs.size,_,I2,rfl,q _ (I1.hok.fresh (Nat.le_refl _))⟩
 ·obtain⟨its,r',pl,hz⟩:=I.tuple hq
  exact call_tuple_same pl ⟨.ref p,H,I,rfl,q⟩
noncomputable def tyV(K:PySem.W.Frag)(T:String)(x:V)(H:Hp):Prop:=match x with
 | .str _=>T = "str"
 | .int _=>T = "int"
 | .ref p=>(T = "list"/\∃ xs,SqL K H p xs)\/(T = "tuple"/\∃ o,K.lookup p=some o/\o.cls = .type "tuple"/\o.dict=none) \/
   (T = "dict"/\((∃ kvs,H p=some (.dK kvs))\/∃ kvs,H p=some (.dT kvs)))\/(T = "set"/\∃ S n,H p=some (.set S n))
 | _=>False
theorem tyV_is{pins:List (Addr×Obj)}{σ:St}{H:Hp}{s:Shared}{T:String}{x:V}{v:Value}(I:Inv X pins σ H s)(r:RelV x v)(ty:tyV X.K T x H) :
  s.TypeIs v T/\∀ a,v = .ref a->∃ ob,s.heap.get? a=some ob/\ob.dict=none:=by
 cases x with
 |str z =>
  obtain⟨t,rfl⟩:=r
  cases(show T = "str" from ty)
  exact⟨typeIs_str s z t,fun _ e=>nomatch e⟩
 |int i =>
  obtain⟨t,rfl⟩:=r
  cases(show T = "int" from ty)
  exact⟨typeIs_int s i t,fun _ e=>nomatch e⟩
 |ref p =>
  cases r
  rcases ty with⟨rfl,xs,hq⟩ |⟨rfl,o,hk,hc,hd⟩ |⟨rfl,hk⟩ |⟨rfl,S,n,hk⟩
  ·obtain⟨its,_,pl,_⟩:=I.list hq
   refine⟨pl.isList.typeIs,fun a e=>?_⟩
   cases e
   obtain⟨o,n,e,c,hd,_⟩:=pl
   exact⟨o,e,hd⟩
  ·refine⟨⟨o,I.kIn p o hk,hc⟩,fun a e=>?_⟩
   cases e
   exact⟨o,I.kIn _ o hk,hd⟩
  ·have z:∃ o,s.heap.get? p=some o/\o.ExactDict:=by
    rcases hk with⟨kvs,hk⟩ |⟨kvs,hk⟩
    ·obtain⟨_,_,_,_,o,_,_,e,ex,_⟩:=I.hok p _ hk
     exact⟨o,e,ex⟩
    ·obtain⟨_,_,_,_,o,_,_,e,ex,_⟩:=I.hok p _ hk
     exact⟨o,e,ex⟩
   obtain⟨o,e,ex⟩:=z
   refine⟨⟨o,e,ex.1⟩,fun a e2=>?_⟩
   cases e2
   exact⟨o,e,ex.2.1⟩
  ·obtain⟨o,_,_,_,e,ex,_⟩:=I.hok p _ hk
   refine⟨⟨o,e,ex.1⟩,fun a e2=>?_⟩
   cases e2
   exact⟨o,e,ex.2.1⟩
 | _=>exact False.elim ty
noncomputable def tBM(K:PySem.W.Frag)(T:String)(r:V->List V->Hp->VK->Prop)(to:TE)(t:TA):TE:=fun σ H Q=>to σ H fun x H1=>tyV K T x H1/\t σ H1 fun xs H2=>r x xs H2 Q
variable{o e:Expr}{es:List Expr}{to:TE}{t:TA}{name:Str}{apos cpos:Pos}{T id:String}{r:V->List V->Hp->VK->Prop}
theorem pe_bm(pa:PlainAttrs T)(slot:Slot T name id)(hty:typeOf (.builtin id)=pure (.type "method_descriptor"))(hm:MtR X id r)(ho:PE X o to)(ha:PA X (e :: es) t)
  (hbase:attributeBase o name X.env (eval o X.env)=eval o X.env:=by rfl)
  (hfew:((backTo cpos (starEach (e :: es) X.env)).all (fun x=>!x.1) && (backToKw cpos (keywordEach [] X.env)).all (fun x=>x.1.isSome)
   && decide ((e :: es).length+([]:List Keyword).length+(if([]:List Keyword).isEmpty then 0 else 1)<30))=true:=by rfl)
  (hline:(apos.endLine == cpos.line)=true:=by rfl) (hs:starEach (e :: es) X.env=(false,eval e X.env) :: starEach es X.env:=by rfl) (hplain:(backTo cpos (starEach es X.env)).any (·.1)=false:=by rfl) :
  PE X (.Call (.Attribute o name apos) (e :: es) [] cpos) (tBM X.K T r to t):=by
 intro pins s σ H Q I h
 refine wpAny_Call_method_late hbase hfew hline rfl (thn (ho pins s σ H _ I h) fun v s1 ⟨x,H1,I1,r1,ty,q1⟩=>?_)
 obtain⟨h1,h2⟩:=tyV_is I1 r1 ty
 refine⟨T,id,pa,slot,hty,h1,h2,?_⟩
 have hA:=ha cpos pins s1 σ H1 _ I1 q1
 rw[hs]at hA ⊢
 refine Calls.callWith_builtin (by show(false ||(backTo cpos (starEach es X.env)).any (·.1))=false;rw[hplain] <;> rfl) (Calls.evalArgs_plain ?_)
 exact thn hA fun us s2 ⟨vs,H2,I2,r2,q2⟩=>hm pins s2 σ H2 x vs v us Q I2 r1 r2 q2
end
open PySem PySem.Spec PyProof.Rows
noncomputable def MtM(X:Cx)(id:String)(r:V->List V->Hp->VK->Prop):Prop :=
 ∀ (pins:List (Addr×Obj)) (s:Shared) (σ:St) (H:Hp) (x:V) (xs:List V) (v:Value) (us:List Value) (Q:VK),Inv X pins σ H s->RelV x v->Vals xs us->r x xs H Q ->
  wpAny (model X.prog X.w) X.A (call (.builtin id) (v :: us)) (EP X pins σ Q) X.xe s
theorem Vals.one{x:V}{us:List Value}(h:Vals [x] us):∃ u,us=[u]/\RelV x u:=by
 cases h with | cons r q=>cases q;exact⟨_,rfl,r⟩
theorem Vals.two{x y:V}{us:List Value}(h:Vals [x,y] us):∃ u v,us=[u,v]/\RelV x u/\RelV y v:=by
 cases h with | cons r q=>cases q with | cons q z=>cases z;exact⟨_,_,rfl,r,q⟩
theorem Vals.zero:∀ {us:List Value},Vals [] us->us=[]
 | _,.nil=>rfl
theorem Vals.dropLast{xs:List V}{us:List Value}(h:Vals xs us):Vals xs.dropLast us.dropLast:=by
 induction h with
 |nil=>exact .nil
 |cons r t ih =>
  cases t with
  |nil=>exact .nil
  |cons q t'=>exact .cons r ih
theorem Vals.eraseIdx:∀ {xs:List V}{us:List Value} (i:Nat),Vals xs us->Vals (xs.eraseIdx i) (us.eraseIdx i)
 | _,_,_,.nil=>.nil
 | _,_,0,.cons _ t=>t
 | _,_,i+1,.cons r t=>.cons r (Vals.eraseIdx i t)
theorem Vals.rep{xs:List V}{us:List Value}(h:Vals xs us):∀ k:Nat,Vals (List.replicate k xs).flatten (List.replicate k us).flatten
 | 0=>.nil
 |k+1=>by
  rw[List.replicate_succ,List.replicate_succ,List.flatten_cons,List.flatten_cons]
  exact Vals.append h (Vals.rep h k)
theorem erase_last{α:Type}(l:List α):l.eraseIdx (l.length-1)=l.dropLast:=by
 induction l with
 |nil=>rfl
 |cons a r ih =>
  cases r with
  |nil=>rfl
  |cons b r =>
   have e:(a :: b :: r).length-1=((b :: r).length-1)+1:=by
    have h1:(a :: b :: r).length=r.length+2:=rfl
    have h2:(b :: r).length=r.length+1:=rfl
    lia
   rw[e,List.eraseIdx_cons_succ,ih]
   all_goals rfl
theorem len_erase{α:Type}:∀ (l:List α) (i:Nat),(l.eraseIdx i).length<=l.length
 |[],_=>Nat.le_refl _
 | _ :: _,0=>Nat.le_succ _
 | _ :: r,i+1=>Nat.succ_le_succ (len_erase r i)
theorem foldl_rep(its:List Value):∀ (k:Nat) (acc:List Value),
  List.foldl (fun x1 x2=>x1++x2) acc.toArray (List.replicate k its.toArray)=(acc++(List.replicate k its).flatten).toArray
 | 0,acc=>by simp
 |k+1,acc=>by
  have e:acc.toArray++its.toArray=(acc++its).toArray:=by simp
  have e2:(acc++its)++(List.replicate k its).flatten=acc++(List.replicate (k+1) its).flatten:=by
   rw[List.replicate_succ,List.flatten_cons,List.append_assoc]
  rw[<- e2,<- foldl_rep its k (acc++its),<- e,List.replicate_succ,List.foldl_cons]
section
variable{X:Cx}{pins:List (Addr×Obj)}{σ:St}{H:Hp}{s:Shared}{l b:Addr}{xs ys zs:List V}
theorem Inv.lset{its its':List Value}{n:Nat}{f:Array Value->Array Value}{t':Nat}(I:Inv X pins σ H s)(hH:H l=some (.lst xs))
  (e:s.heap.get? l=some { cls:=.type "list",data:=.seq its.toArray n }) (hf:f its.toArray=its'.toArray) (hv:Vals ys its') (hz:ys.length<=sizeLine) :
  Inv X pins σ (upd H l (.lst ys)) { s with heap:=s.heap.update l (Obj.mapSeq f),toks:=t' }:=by
 have q:=PySem.IsL.update e f
 rw[hf]at q
 refine I.write (x:=l) (e:=l) (by rw[hH];exact trivial) (.inl rfl) (fun b' u hb hu=>(Heap.get?_update_other s.heap (Obj.mapSeq f) (Ne.symm hb)).trans hu) ⟨_,q⟩ ?_
 exact⟨hz,its',_,hv,q⟩
theorem Inv.lnew{its:List Value}{t':Nat}(I:Inv X pins σ H s)(hv:Vals ys its)(hz:ys.length<=sizeLine) :
  Inv X pins σ (upd H s.heap.objs.size (.lst ys)) { s with heap:=s.heap.push { cls:=.type "list",data:=.seq its.toArray },toks:=t' } :=
 I.laid (fun _ _ q=>Heap.get?_push_of_some _ q) (Nat.le_refl _) ⟨hz,its,0,hv,Heap.get?_push_size _ rfl⟩
theorem Inv.fresh(I:Inv X pins σ H s):H s.heap.objs.size=none:=I.hok.fresh (Nat.le_refl _)
theorem Inv.lstM(I:Inv X pins σ H s)(hH:H l=some (.lst xs)):xs.length<=sizeLine/\∃ (its:List Value) (n:Nat),Vals xs its/\xs.length=its.length/\s.heap.get? l=some { cls:=.type "list",data:=.seq its.toArray n }:=by
 obtain⟨z,its,n,r,e⟩:=I.hok l _ hH
 exact⟨z,its,n,r,r.length,e⟩
theorem notLongL{n:Nat}(h:n<=sizeLine):Builtin.List.listTooLong n=false:=by
 unfold Builtin.List.listTooLong
 exact decide_eq_false (by lia)
end
section
variable{X:Cx}
inductive rAppendI(x:V)(vs:List V)(H:Hp)(Q:VK):Prop where
 |mk (l:_) (xs:_) (y:_) (h1:x = .ref l) (h2:vs=[y]) (h3:H l=some (.lst xs)) (h4:xs.length<sizeLine) (h5:Q .non (upd H l (.lst (xs++[y]))))
noncomputable def rAppend:V->List V->Hp->VK->Prop:=fun x vs H Q=>rAppendI x vs H Q
theorem mt_append:MtM X "list.append" rAppend:=by
 intro pins s σ H x vs v us Q I rx rv h
 obtain⟨l,xs,y,rfl,rfl,hH,hz,q⟩:=h
 cases rx
 obtain⟨u,rfl,ru⟩:=rv.one
 obtain⟨z,its,n,r,hl,e⟩:=I.lstM hH
 refine call_meets F.slot_list_append ⟨_,e,rfl⟩ F.entry_list_append (F.args_list_append_2 _ _) (PySem.list_append l its.toArray n u (by rw[List.size_toArray];lia)) ⟨e,?_⟩
 refine⟨.non,_,I.lset (its':=its++[u]) hH e (by simp) (r.append (.cons ru .nil)) ?_,rfl,q⟩
 rw[List.length_append,List.length_singleton]
 lia
inductive rExtendI(x:V)(vs:List V)(H:Hp)(Q:VK):Prop where
 |mk (l:_) (b:_) (xs:_) (zs:_) (h1:x = .ref l) (h2:vs=[.ref b]) (h3:H l=some (.lst xs)) (h4:H b=some (.lst zs)) (h5:xs.length+zs.length<=sizeLine) (h6:Q .non (upd H l (.lst (xs++zs))))
noncomputable def rExtend:V->List V->Hp->VK->Prop:=fun x vs H Q=>rExtendI x vs H Q
theorem mt_extend:MtM X "list.extend" rExtend:=by
 intro pins s σ H x vs v us Q I rx rv h
 obtain⟨l,b,xs,zs,rfl,rfl,hH,hB,hz,q⟩:=h
 cases rx
 obtain⟨u,rfl,ru⟩:=rv.one
 cases ru
 obtain⟨z,its,n,r,hl,e⟩:=I.lstM hH
 obtain⟨z2,its2,n2,r2,hl2,e2⟩:=I.lstM hB
 have hsz:its.toArray.size+its2.toArray.size<=sizeLine:=by rw[List.size_toArray,List.size_toArray];lia
 have hlong:¬(!its.toArray.isEmpty && Builtin.List.listTooLong (its.toArray.size+its2.toArray.size))=true:=by
  rw[notLongL hsz,Bool.and_false]
  exact Bool.false_ne_true
 refine call_meets F.slot_list_extend ⟨_,e,rfl⟩ F.entry_list_extend (F.args_list_extend_2 _ _)
  (AutoSeq1.list_extend_list_list_0 l its.toArray n b its2.toArray n2 hlong (by rw[List.size_toArray];lia) (by lia)) ⟨e,e2,?_⟩
 refine⟨.non,_,I.lset (its':=its++its2) hH e (by simp) (r.append r2) ?_,rfl,q⟩
 rw[List.length_append]
 omega
inductive rPopI(x:V)(vs:List V)(H:Hp)(Q:VK):Prop where
 |mk (l:_) (xs:_) (y:_) (h1:x = .ref l) (h2:vs=[]) (h3:H l=some (.lst xs)) (h4:xs[xs.length-1]?=some y) (h5:Q y (upd H l (.lst xs.dropLast)))
noncomputable def rPop:V->List V->Hp->VK->Prop:=fun x vs H Q=>rPopI x vs H Q
theorem mt_pop:MtM X "list.pop" rPop:=by
 intro pins s σ H x vs v us Q I rx rv h
 obtain⟨l,xs,y,rfl,rfl,hH,hy,q⟩:=h
 cases rx
 have hus:=rv.zero
 subst hus
 obtain⟨z,its,n,r,hl,e⟩:=I.lstM hH
 obtain⟨u,hu,ru⟩:=r.get hy
 have hy':its.toArray[its.toArray.size-1]?=some u:=by
  show its.toArray[its.length-1]?=some u
  rw[<- Array.getElem?_toList,<- hl]
  exact hu
 refine call_meets F.slot_list_pop ⟨_,e,rfl⟩ F.entry_list_pop (F.args_list_pop_1 _) (MeetsSeq.list_pop_last l its.toArray n u hy' (by rw[List.size_toArray];lia)) ⟨e,?_⟩
 refine⟨y,_,I.lset (its':=its.dropLast) hH e ?_ r.dropLast ?_,ru,q⟩
 ·show its.toArray.eraseIdxIfInBounds (its.toArray.size-1)=its.dropLast.toArray
  rw[List.size_toArray,List.eraseIdxIfInBounds_toArray,erase_last]
 ·rw[List.length_dropLast]
  omega
inductive rPopAtI(x:V)(vs:List V)(H:Hp)(Q:VK):Prop where
 |mk (l:_) (xs:_) (i:_) (k:_) (y:_) (h1:x = .ref l) (h2:vs=[.int i]) (h3:H l=some (.lst xs)) (h4:-(2 ^ 63)<=i) (h5:i<2 ^ 63) (h6:seqIndex? i xs.length=some k) (h7:xs[k]?=some y) (h8:Q y (upd H l (.lst (xs.eraseIdx k))))
noncomputable def rPopAt:V->List V->Hp->VK->Prop:=fun x vs H Q=>rPopAtI x vs H Q
theorem mt_popAt:MtM X "list.pop" rPopAt:=by
 intro pins s σ H x vs v us Q I rx rv h
 obtain⟨l,xs,i,k,y,rfl,rfl,hH,h1,h2,hk,hy,q⟩:=h
 cases rx
 obtain⟨u,rfl,ru⟩:=rv.one
 obtain⟨t,rfl⟩:=ru
 obtain⟨z,its,n,r,hl,e⟩:=I.lstM hH
 obtain⟨w,hw,rw'⟩:=r.get hy
 refine call_meets F.slot_list_pop ⟨_,e,rfl⟩ F.entry_list_pop (F.args_list_pop_2 _ _)
  (MeetsSeq.list_pop_at l its.toArray n i t k w (fitsIndex_both h1 h2) (by rw[List.size_toArray,<- hl];exact hk) (by rw[<- Array.getElem?_toList];exact hw) (by rw[List.size_toArray];lia)) ⟨e,?_⟩
 refine⟨y,_,I.lset (its':=its.eraseIdx k) hH e ?_ (r.eraseIdx k) ?_,rw',q⟩
 ·show its.toArray.eraseIdxIfInBounds k=(its.eraseIdx k).toArray
  rw[List.eraseIdxIfInBounds_toArray]
 ·have:=len_erase xs k
  lia
inductive rCatI(x:V)(y:V)(H:Hp)(Q:VK):Prop where
 |mk (l:_) (b:_) (xs:_) (zs:_) (h1:x = .ref l) (h2:y = .ref b) (h3:H l=some (.lst xs)) (h4:H b=some (.lst zs)) (h5:xs.length+zs.length<=sizeLine) (h6:∀ p,H p=none->Q (.ref p) (upd H p (.lst (xs++zs))))
noncomputable def rCat:R2:=fun x y H Q=>rCatI x y H Q
theorem op_cat:OpR X (binaryOp .Add) rCat:=by
 intro pins s σ H x y v u Q I rx ry h
 obtain⟨l,b,xs,zs,rfl,rfl,hH,hB,hz,q⟩:=h
 cases rx
 cases ry
 obtain⟨z,its,n,r,hl,e⟩:=I.lstM hH
 obtain⟨z2,its2,n2,r2,hl2,e2⟩:=I.lstM hB
 refine PySem.P.add_list e e2 ?_ (by rw[List.size_toArray,List.size_toArray];lia)
 have ea:its.toArray++its2.toArray=(its++its2).toArray:=by simp
 rw[ea]
 exact⟨.ref _,_,I.lnew (t':=s.toks) (r.append r2) (by rw[List.length_append];omega),rfl,q _ I.fresh⟩
theorem len_rep{α:Type}(xs:List α)(k:Nat):(List.replicate k xs).flatten.length=k * xs.length:=by
 induction k with
 |zero=>simp
 |succ k ih=>rw[List.replicate_succ,List.flatten_cons,List.length_append,ih,Nat.succ_mul,Nat.add_comm]
end
end L2
namespace Att
open PySem PySem.W PySem.Calls PyProof.Rows
theorem ints_of_wellAll{P:Params}{h:Heap}:∀ (ns:List Int) (vs:List Value),WellAll P h vs (ns.map WData.int)->IntsAre vs ns:=by
 intro ns
 induction ns with
 |nil =>
  intro vs w
  rw[List.map_nil]at w
  cases w
  exact .nil
 |cons n ns ih =>
  intro vs w
  rw[List.map_cons]at w
  cases w with
  |cons a b =>
   cases a
   exact .cons _ _ (ih _ b)
theorem script_of{l:OpenLaw}{n:Nat}(hn:l.most=some n){P:Params}{h:Heap}{args:List WData}{vals:List Value}
  (hpre:l.row.toRowW.claim.pre args=true) (hwl:WellAll P h vals args) :
  ∃ a vs ns,vals=[Value.ref a]/\args=[WData.list (ns.map WData.int)]/\h.get? a=some { cls:=.type "list",data:=.seq vs.toArray }/\IntsAre vs ns/\ns.length<=n:=by
 have hsh:WShape.hasAll [] args [.list .int]=true:=(pre_splitW hpre).1
 have hc:l.pre.holds [] { args:=args } = true:=(pre_splitW hpre).2
 obtain⟨d,r,rfl,h1,h2⟩:=hasAllW_cons hsh
 obtain rfl:=hasAllW_nil h2
 obtain⟨xs,rfl,h3⟩:=hasW_list h1
 obtain⟨ns,rfl⟩:=items_int h3
 have hlen:ns.length<=n:=by
  unfold OpenLaw.pre at hc
  have h4:(WTm.not (.lt (.lit (.int (n:Int))) (.len (.arg 0)))).holds [] { args:=[.list (ns.map .int)] } = true:=by
   have h4:=(holds_andW hc).1
   rw[hn]at h4
   exact h4
  have h5:=condW_of h4 (w_not (w_lt w_lit (w_len_list (w_arg rfl))))
  rw[List.length_map]at h5
  refine Nat.le_of_not_lt fun q=>?_
  have q':(n:Int) <((ns.length:Nat):Int):=by omega
  first
   |(rw[decide_eq_true q']at h5;exact absurd h5 (by decide))
   |(simp at h5;omega)
 cases hwl with
 |cons w1 w2 =>
  cases w2
  cases w1 with
  |list ho hall=>exact⟨_,_,ns,rfl,rfl,ho,ints_of_wellAll ns _ hall,hlen⟩
theorem post_true(l:OpenLaw)(args:List WData):l.row.toRowW.claim.post args (.bool true) args=true :=
 postW_of (r:=l.row.toRowW) (X:=(true == true))
  (show WShape.has [] (.bool true) .bool=true by first | rfl | decide | simp[WShape.has,WShape.arms,WShape.armsAll])
  (show(WTm.eq .res (.lit (.bool true))).value [] { args:=args,res:=some (.bool true),after:=args } = some (.bool (true == true))from w_eq_bool (w_res rfl) w_lit) rfl
theorem attach_call{l:OpenLaw}{n:Nat}{q:Program}{loose:List Str}{XP:(Str->Option Value)->Heap->Prop}{YP:World->Heap->Prop}{d:DefRec}
  (hn:l.most=some n) (hdf:d.params.defaults=[])
  (call:∀ (w:World) (s₀ s₁:Shared) (mg mb:Str->Option Value) (fa:Addr) (o:Obj) (pm cd doc:Value) (a:Addr) (vs:List Value) (ns:List Int),
   Ground q loose [] XP w s₀ mg mb s₁.heap->YP w s₁.heap ->
   s₁.heap.get? fa=some o->o.data = .func (docDef d.name d.params d.body d.scope pm cd doc)->s₁.heap.CodeRec cd d.name->mg d.name=some (.ref fa) ->
   s₁.heap.get? a=some { cls:=.type "list",data:=.seq vs.toArray }->IntsAre vs ns->ns.length<=n->s₁.gens = #[] ->
   codeAny (model l.prog w) callerA (.call (.ref fa) ⟨[.ref a],[]⟩) (fun r s'=>r = .ok (.ret (.bool true))/\OldK s₁.heap s'.heap/\s'.os=s₁.os/\AllBare s'.gens) s₁) :
  WalkO q loose XP YP l.row.toRowW d [] (fun f vs=>PySem.call f vs):=by
 intro w s₀ s₁ mg mb G Y fa o pm cd doc dV kV ho hd hcd hD hmg hg args vals as hpre hlay hrd hwl hlo
 obtain rfl:dV = .none:=Dflts.none hD hdf
 obtain rfl:kV = .none:=Dflts.noKw hD
 obtain⟨a,vs,ns,rfl,rfl,hobj,hints,hlen⟩:=script_of hn hpre hwl
 refine enter_call (codeAny_mono (call w s₀ s₁ mg mb fa o pm cd doc a vs ns G Y ho (fd_plain hd) hcd hmg hobj hints hlen hg) fun r s' hq=>?_)
 obtain⟨rfl,h2,h3,h4⟩:=hq
 exact⟨.inl ⟨.bool true,.bool true,[],rfl,fun _=>rfl,.bool true,post_true l _,fun _=>⟨List.Pairwise.nil,fun _ hm=>(nomatch hm)⟩⟩,h2,h3,h4⟩
end Att
namespace L2
open PySem PySem.Spec PyProof.Rows
theorem vals_ints:∀ {vs:List Value}{ns:List Int},IntsAre vs ns->Vals (ns.map V.int) vs
 | _,_,.nil=>.nil
 | _,_,.cons n t h=>.cons ⟨t,rfl⟩ (vals_ints h)
noncomputable def Only(H:Hp):Prop:=∀ b,H b=none\/∃ o xs,H b=some (.frz o (.lst xs))
theorem law_call{P:Program}{w:World}{K:PySem.W.Frag}{mg mb:Str->Option Value}{CX:CXT}{k:Nat}{fa a:Addr}{fd:FuncData}{x:Str}{sp:Sp}{s₁:Shared}{vs:List Value}{ns:List Int}
  (KX:K.In s₁.heap) (hns:s₁.heap.Ns mainGlobals mg) (hb:s₁.heap.Ns builtinsNs mb) (hbb:∀ x:Str,x≠"__name__"->mb x=bootBuiltins x) (hlim:s₁.heap.NoLimit) (hg:s₁.gens = #[])
  (ha:s₁.heap.get? a=some { cls:=.type "list",data:=.seq vs.toArray }) (hi:IntsAre vs ns) (hl:ns.length<=sizeLine) (hr:Room k callerA)
  (F:∀ base:Heap,K.In base->base.Ns mainGlobals mg->FnOk P w K mg base CX k fa fd [x] sp) (hbind:∀ (s:Shared) (u:Value),BindsTo s fd ⟨[u],[]⟩ [(x,u)])
  (hsp:∀ H:Hp,Only H->SqL K H a (ns.map V.int)->sp [.ref a] H (fun v _=>v = .bl true) fun _ _ _=>False)
  (hCX:∀ H e s',CX [] H s₁ (fun _ _ _=>False) e s'->False) :
  codeAny (model P w) callerA (.call (.ref fa) ⟨[.ref a],[]⟩) (fun r s'=>r = .ok (.ret (.bool true))/\OldK s₁.heap s'.heap/\s'.os=s₁.os/\AllBare s'.gens) s₁:=by
 have rv:=vals_ints hi
 have lenV:=hi.length
 -- from an abstract heap in which nothing but the script may be tracked
 have core:∀ H:Hp,Only H->SqL K H a (ns.map V.int)->HOk P w H s₁.heap->(∀ b,H b≠none->b=a)->(H a≠none->K.lookup a=none) ->
   codeAny (model P w) callerA (.call (.ref fa) ⟨[.ref a],[]⟩) (fun r s'=>r = .ok (.ret (.bool true))/\OldK s₁.heap s'.heap/\s'.os=s₁.os/\AllBare s'.gens) s₁:=by
  intro H hO hS hok hA hK
  have base_of:∀ {b:Addr}{o:Obj},s₁.heap.get? b=some o->H b=none->(hidT s₁.heap H).get? b=some o:=fun e n=>hidT_get e n
  have noA:∀ {b:Addr}{o:Obj}{es:Array DictEntry}{ep:Nat},s₁.heap.get? b=some o->o.data = .dict es ep->H b=none:=fun {b o es ep} e d=>by
   cases q:H b with
   |none=>rfl
   |some u =>
    have e':b=a:=hA b (by rw[q];simp)
    subst e'
    rw[ha]at e;cases e
    have d':Data.seq vs.toArray _=Data.dict es ep:=d
    cases d'
  have nsK:∀ {b:Addr}{m:Str->Option Value},s₁.heap.Ns b m->(hidT s₁.heap H).Ns b m:=fun {b m} ⟨o,es,ep,e,d,r⟩=>⟨o,es,ep,base_of e (noA e d),d,r⟩
  have hKb:K.In (hidT s₁.heap H):=fun b o e=>base_of (KX b o e) (by
   cases q:H b with
   |none=>rfl
   |some u =>
    have e':b=a:=hA b (by rw[q];simp)
    subst e'
    rw[hK (by rw[q];simp)]at e;cases e)
  have hM:Mod K mg (hidT s₁.heap H):=⟨hKb,nsK hns,⟨mb,nsK hb,hbb⟩,let ⟨mc,h1,h2⟩:=hlim;⟨mc,nsK h1,h2⟩⟩
  have e0:Env0 P w K mg (hidT s₁.heap H) callerA [] s₁ H:=⟨rfl,hM,fun b o e=>of_hidT e,Nat.le_of_eq (hidT_size _ _),trivial,fun b hb=>absurd (show b∈([]:List Addr)from hb) (by simp),hok,.of_eq hg⟩
  refine codeAny_mono ((F _ hKb (nsK hns)).run callerA [] s₁ H ⟨[.ref a],[]⟩ [.ref a] [.ref a] _ _ hr e0 (hbind s₁ (.ref a)) (.cons rfl .nil) (hsp H hO hS)) fun r s' h=>?_
  cases r with
  |error e=>exact(hCX H e s' h).elim
  |ok fl =>
   cases fl with
   |next=>exact False.elim h
   |brk=>exact False.elim h
   |cont=>exact False.elim h
   |ret u =>
    obtain⟨v,H',os,bare,un,hok',r',q⟩:=h
    have q':v = .bl true:=q
    subst q'
    obtain rfl:u=Value.bool true:=r'
    refine⟨rfl,OldK.of_keep fun b o e=>?_,os,bare⟩
    cases q:H b with
    |none=>exact un.keep b o e q (by intro z;exact absurd (show b∈([]:List Addr)from z) (by simp)) (by simp)
    |some u =>
     rcases hO b with z |⟨ob,xs,z⟩
     ·rw[q]at z;cases z
     ·have z2:=un.frzs b ob _ z
      obtain⟨e1,_⟩:=hok b _ z
      obtain⟨e2,_⟩:=hok' b _ z2
      rw[e]at e1;cases e1
      exact e2
 cases hk:K.lookup a with
 |some o =>
  -- the script is one of the module's own objects
  have e:=KX a o hk
  rw[ha]at e
  cases e
  refine core (fun _=>none) (fun _=>.inl rfl) (.inr ⟨_,vs.toArray,_,hk,rfl,rfl,rfl,by rw[List.size_toArray,lenV];exact hl,by simpa using rv⟩) (fun b u z=>by have z':(none:Option HO)=some u:=z;cases z') (fun b z=>absurd rfl z) fun z=>absurd rfl z
 |none =>
  refine core (fun b=>if b=a then some (.frz { cls:=.type "list",data:=.seq vs.toArray } (.lst (ns.map V.int)))else none) (fun b=>?_) (.inl (.inr ⟨{ cls:=.type "list",data:=.seq vs.toArray },if_pos rfl⟩)) (fun b u z=>?_) (fun b z=>?_) fun _=>hk
  ·by_cases hb:b=a
   ·exact .inr ⟨_,_,if_pos hb⟩
   ·exact .inl (if_neg hb)
  ·by_cases hb:b=a
   ·have z':=(if_pos hb).symm.trans z
    cases z'
    subst hb
    exact⟨ha,by rw[List.length_map];exact hl,vs,_,rv,ha⟩
   ·have z':=(if_neg hb).symm.trans z
    cases z'
  ·by_cases hb:b=a
   ·exact hb
   ·exact absurd (if_neg hb) z
open PySem PySem.Spec PyProof.Rows
theorem walk_of{l:PySem.W.OpenLaw}{n k:Nat}{q:Program}{loose:List Str}{XP:(Str->Option Value)->Heap->Prop}{YP:World->Heap->Prop}{d:DefRec}{K:Params->PySem.W.Frag}{CX:World->CXT}{sp:World->Sp}{x:Str}
  (hn:l.most=some n) (hn2:n<=sizeLine) (hdf:d.params.defaults=[]) (hr:Room k callerA)
  (hY:∀ (w:World) (h:Heap),YP w h->(K w.params).In h)
  (F:∀ (w:World) (mg:Str->Option Value) (fa:Addr) (h:Heap),(K w.params).In h->h.Ns mainGlobals mg->mg d.name=some (.ref fa) ->
   ∃ fd:FuncData,(∀ (s:Shared) (u:Value),BindsTo s fd ⟨[u],[]⟩ [(x,u)]) /\
    ∀ base:Heap,(K w.params).In base->base.Ns mainGlobals mg->FnOk l.prog w (K w.params) mg base (CX w) k fa fd [x] (sp w))
  (hsp:∀ (w:World) (H:Hp) (a:Addr) (ns:List Int),ns.length<=n->Only H->SqL (K w.params) H a (ns.map V.int)->sp w [.ref a] H (fun v _=>v = .bl true) fun _ _ _=>False)
  (hCX:∀ (w:World) (H:Hp) (s:Shared) (e:Value) (s':Shared),CX w [] H s (fun _ _ _=>False) e s'->False) :
  PySem.W.WalkO q loose XP YP l.row.toRowW d [] (fun f vs=>PySem.call f vs):=by
 refine Att.attach_call hn hdf fun w s₀ s₁ mg mb fa o pm cd doc a vs ns G Y ho hd hcd hmg hobj hints hlen hg=>?_
 have KX:=hY w _ Y
 obtain⟨fd,hb,hF⟩:=F w mg fa _ KX G.T.g hmg
 exact law_call KX G.T.g G.T.b G.T.builtins G.T.nolimit hg hobj hints (Nat.le_trans hlen hn2) hr hF hb (fun H hO hS=>hsp w H a ns hlen hO hS) fun H e s'=>hCX w H s₁ e s'
open PySem PySem.Spec PyProof.Rows
noncomputable def defArgs(s:Stmt):Arguments:=match s with
 | .FunctionDef _ a _ _ _ _ _ _ _ _=>a
 | _=>{ posonlyargs:=[],args:=[],vararg:=none,kwonlyargs:=[],kw_defaults:=[],kwarg:=none,defaults:=[] }
noncomputable def defBody(s:Stmt):List Stmt:=match s with
 | .FunctionDef _ _ b _ _ _ _ _ _ _=>b
 | _=>[]
noncomputable def defScope(s:Stmt):Scope:=match s with
 | .FunctionDef _ _ _ _ _ _ sc _ _ _=>sc
 | _=>{ kind:=.function,names:=[],isGenerator:=false,isCoroutine:=false }
noncomputable abbrev CX0:CXT:=fun _ _ _ _ _ _=>False
noncomputable abbrev E0:XK:=fun _ _ _=>False
theorem pass0{X:Cx}:Passes CX0 X E0:=fun _ _ _ _ _ _ _ h=>h.elim
structure Fun(K:PySem.W.Frag)(x qual:Str)(st:Stmt)(f:Addr)(fd:FuncData):Prop where
 ex:∃ (oc:Value) (od:Option Addr) (kV doc pm:Value) (an:Option Addr) (cdv ct:Value) (osl:Array (Option Value)),
  fd=PySem.W.fnOf x qual (defArgs st) (defBody st) (defScope st) .none kV doc pm an cdv ct/\K.lookup f=some ⟨oc,od,.func fd,osl⟩/\PySem.W.codeIn K cdv qual=true
 kp:PySem.W.keepIn K (.ref f)=true
section
variable{P:Program}{w:World}{K:PySem.W.Frag}{mg:Str->Option Value}{base:Heap}
theorem Fun.ok{x qual:Str}{st:Stmt}{f:Addr}{fd:FuncData}{N ps:List Str}{k:Nat}{sp:Sp}(F:Fun K x qual st f fd)(S:FnScope N ps (defScope st))(len:∀ vs H Q E,sp vs H Q E->vs.length=ps.length)
  (hbody:∀ (cdv:Value) (A:Around) (outer:List Env) (s:Shared) (H:Hp) (vs:List V) (Q:VK) (E:XK),Room k (A.deeper (envOfC qual (defScope st) s.heap.objs.size f cdv))->sp vs H Q E ->
   ∃ t,PSs (cxOf CX0 P w K mg base N qual (defScope st) f cdv A outer s H E).nox (defBody st) t/\t { nx:=fun _ H'=>Q .non H',rt:=Q } (start N vs) H):FnOk P w K mg base CX0 (k+1) f fd ps sp:=by
 obtain⟨oc,od,kV,doc,pm,an,cdv,ct,osl,rfl,lk,hcd⟩:=F.ex
 refine fn_of lk hcd S len fun A outer s H vs Q E hr hsp=>?_
 obtain⟨t,h,q⟩:=hbody cdv A outer s H vs Q E hr hsp
 exact⟨t,h.nox,q⟩
theorem Fun.binds{x qual:Str}{st:Stmt}{f:Addr}{fd:FuncData}{ps:List Str}(F:Fun K x qual st f fd)
  (h:∀ (kV doc pm:Value) (an:Option Addr) (cdv ct:Value) (us:List Value),us.length=ps.length->bindArgs (PySem.W.fnOf x qual (defArgs st) (defBody st) (defScope st) .none kV doc pm an cdv ct) ⟨us,[]⟩=pure (ps.zip us)):Binds K fd ps []:=by
 obtain⟨oc,od,kV,doc,pm,an,cdv,ct,osl,rfl,lk,hcd⟩:=F.ex
 exact .all (h kV doc pm an cdv ct)
theorem fun_mk{x qual:Str}{st:Stmt}{f:Addr}{oc:Value}{od an:Option Addr}{osl:Array (Option Value)}{kV doc pm cdv ct:Value}(l:K.lookup f=some ⟨oc,od,.func (PySem.W.fnOf x qual (defArgs st) (defBody st) (defScope st) .none kV doc pm an cdv ct),osl⟩)
  (c:PySem.W.codeIn K cdv qual=true) (k:PySem.W.keepIn K (.ref f)=true):Fun K x qual st f (PySem.W.fnOf x qual (defArgs st) (defBody st) (defScope st) .none kV doc pm an cdv ct):=⟨⟨oc,od,kV,doc,pm,an,cdv,ct,osl,rfl,l,c⟩,k⟩
end
theorem hu_of{A:Around}{k:Nat}(hr:Room k A):A.units+1<cLine:=Nat.lt_of_le_of_lt (Nat.add_le_add_left (by decide:1<=64) _) hr.units
section
variable{X:Cx}
theorem pv(i:Nat){x:Str}{pos:Pos}(hN:X.N[i]?=some x:=by rfl)(hv:Vis X.env.scope x:=by first | exact Or.inl rfl | exact Or.inr (Or.inl rfl) | exact Or.inr (Or.inr rfl))(hd:(x ==("__debug__":Str))=false:=by decide)
  (hcd:(x ==("__classdict__":Str))=false:=by decide):PE X (.Name x pos) (tVar i):=pe_var hN hv hd hcd
end
theorem iteF{A B:Prop}(h:B):if false=true then A else B:=by
 rw[if_neg Bool.false_ne_true]
 exact h
theorem iteT{A B:Prop}(h:A):if true=true then A else B:=by
 rw[if_pos rfl]
 exact h
theorem ite2{c A B:Prop}[Decidable c](h1:c->A)(h2:¬ c->B):if c then A else B:=by
 by_cases h:c
 ·rw[if_pos h]
  exact h1 h
 ·rw[if_neg h]
  exact h2 h
theorem iteNS{c A B:Prop}[Decidable c](hc:c)(h:B):if(!decide c)=true then A else B:=by
 rw[decide_eq_true hc]
 exact iteF h
noncomputable def Same(H H':Hp):Prop:=∀ b o,H b=some o->H' b=some o
theorem Same.refl(H:Hp):Same H H:=fun _ _ h=>h
theorem Same.trans{H H1 H2:Hp}(a:Same H H1)(b:Same H1 H2):Same H H2:=fun c o h=>b c o (a c o h)
theorem Same.free{H H':Hp}(e:Same H H'){l:Addr}(h:H' l=Option.none):H l=Option.none:=by
 cases q:H l with
 |none=>rfl
 |some o =>
  rw[e l o q]at h
  cases h
theorem Same.seq{K:PySem.W.Frag}{H H':Hp}{a:Addr}{xs:List V}(e:Same H H')(h:SqL K H a xs):SqL K H' a xs:=by
 rcases h with(h |⟨o,h⟩) | h
 ·exact .inl (.inl (e _ _ h))
 ·exact .inl (.inr ⟨o,e _ _ h⟩)
 ·exact .inr h
open PySem PySem.Spec PyProof.Rows
end L2
set_option maxHeartbeats 4000000
namespace L2
open PySem PySem.Spec PyProof.Rows
noncomputable def closCl(cells:List (Str×Addr)):List (Str×NameKind)->List (Str×Addr)->List (Str×Addr)
 |[],acc=>acc
 |(n,k) :: r,acc=>closCl cells r (if k == .free then(n,(cells.lookup n).getD 0) :: acc else acc)
theorem closureFor_cells{scope:Scope}{env:Env}(h:∀ x∈scope.names,x.2 = .free->∃ c,env.cells.lookup x.1=some c) :
  closureFor scope env=pure (closCl env.cells scope.names []):=by
 have gen:∀ (l:List (Str×NameKind)) (acc:List (Str×Addr)),(∀ x∈l,x.2 = .free->∃ c,env.cells.lookup x.1=some c) ->
   (forIn l acc fun(x:Str×NameKind) (cs:List (Str×Addr))=>(do
    if x.2 == .free then
     let c <- cellOf env x.1
     pure (ForInStep.yield ((x.1,c) :: cs))
    else pure (ForInStep.yield cs):Sem (ForInStep (List (Str×Addr)))))=pure (closCl env.cells l acc):=by
  intro l
  induction l with
  |nil=>intro acc _;rfl
  |cons x r ih =>
   intro acc hx
   obtain⟨n,k⟩:=x
   rw[List.forIn_cons]
   have hr:=fun y hy=>hx y (List.mem_cons_of_mem _ hy)
   by_cases hk:k = .free
   ·subst hk
    obtain⟨c,hc⟩:=hx (n,.free) List.mem_cons_self rfl
    have e1:cellOf env n=pure c:=by unfold cellOf;rw[hc]
    simp only[e1,beq_self_eq_true,if_true,pure_bind]
    rw[ih _ hr]
    have hc':env.cells.lookup n=some c:=hc
    simp[closCl,hc']
   ·have hb:(k == NameKind.free)=false:=by simpa using hk
    simp only[hb,Bool.false_eq_true,if_false,pure_bind]
    rw[ih _ hr]
    simp[closCl,hb]
 have g:=gen scope.names [] h
 unfold closureFor
 simp only[bind_pure]
 exact g
theorem closCl_sound{cells:List (Str×Addr)}:∀ (l:List (Str×NameKind)) (acc:List (Str×Addr)),(∀ x∈l,x.2 = .free->∃ c,cells.lookup x.1=some c) ->
  (∀ y c,acc.lookup y=some c->cells.lookup y=some c)->∀ y c,(closCl cells l acc).lookup y=some c->cells.lookup y=some c
 |[],_,_,ha,y,c,e=>ha y c e
 |(n,k) :: r,acc,h,ha,y,c,e=>by
  refine closCl_sound r _ (fun x hx=>h x (List.mem_cons_of_mem _ hx)) ?_ y c e
  intro y c e
  by_cases hk:k = .free
  ·subst hk
   obtain⟨c',hc⟩:=h (n,.free) List.mem_cons_self rfl
   have hc:cells.lookup n=some c':=hc
   simp only[beq_self_eq_true,if_true,List.lookup_cons]at e
   by_cases hy:y == n
   ·have:y=n:=by simpa using hy
    subst this
    simp[hc]at e
    rw[hc,e]
   ·simp only[hy]at e
    exact ha y c e
  ·have hb:(k == NameKind.free)=false:=by simpa using hk
   rw[hb,if_neg (by simp)]at e
   exact ha y c e
theorem closCl_acc{cells:List (Str×Addr)}:∀ (l:List (Str×NameKind)) (acc:List (Str×Addr)) (y:Str),(∃ c,acc.lookup y=some c)->∃ c,(closCl cells l acc).lookup y=some c
 |[],_,_,h=>h
 |(n,k) :: r,acc,y,h=>by
  refine closCl_acc r _ y ?_
  by_cases hk:(k == NameKind.free)=true
  ·rw[if_pos hk,List.lookup_cons]
   by_cases hy:(y == n)=true
   ·rw[hy];exact⟨_,rfl⟩
   ·rw[Bool.eq_false_iff.mpr hy];exact h
  ·rw[if_neg hk];exact h
theorem closCl_has{cells:List (Str×Addr)}:∀ (l:List (Str×NameKind)) (acc:List (Str×Addr)) (y:Str),(y,NameKind.free)∈l->∃ c,(closCl cells l acc).lookup y=some c
 |[],_,_,h=>nomatch h
 |(n,k) :: r,acc,y,h=>by
  rcases List.mem_cons.mp h with e | h
  ·have e1:n=y:=(congrArg Prod.fst e).symm
   have e2:k=NameKind.free:=(congrArg Prod.snd e).symm
   subst e1 e2
   refine closCl_acc r _ n ?_
   rw[if_pos (by rfl),List.lookup_cons,beq_self_eq_true]
   exact⟨_,rfl⟩
  ·exact closCl_has r _ y h
theorem relabel_mem{scope:Scope}{env:Env}:∀ {l:List (Str×NameKind)}{x:Str}{k':NameKind},
  (l.map fun(n,k)=>if(k == NameKind.free && env.scope.kind == .function && env.kindOf n == some .cell)then(n,NameKind.cell)else(n,k)).lookup x=some k' ->
  ∃ k,(x,k)∈l/\(k=k'\/(k = .free/\k' = .cell))
 |[],_,_,h=>by simp at h
 |(n,k) :: r,x,k',h=>by
  rw[List.map_cons]at h
  dsimp only at h
  by_cases hc:(k == NameKind.free && env.scope.kind == .function && env.kindOf n == some .cell)=true
  ·simp only[hc,if_true,List.lookup_cons]at h
   by_cases hx:(x == n)=true
   ·rw[hx]at h
    have:x=n:=by simpa using hx
    subst this
    have hk:k = .free:=by
     rw[Bool.and_eq_true,Bool.and_eq_true]at hc
     simpa using hc.1.1
    exact⟨k,List.mem_cons_self,.inr ⟨hk,by cases h;rfl⟩⟩
   ·rw[Bool.eq_false_iff.mpr hx]at h
    obtain⟨k1,h1,h2⟩:=relabel_mem (scope:=scope) h
    exact⟨k1,List.mem_cons_of_mem _ h1,h2⟩
  ·rw[if_neg hc,List.lookup_cons]at h
   by_cases hx:(x == n)=true
   ·rw[hx]at h
    have:x=n:=by simpa using hx
    subst this
    exact⟨k,List.mem_cons_self,.inl (by cases h;rfl)⟩
   ·rw[Bool.eq_false_iff.mpr hx]at h
    obtain⟨k1,h1,h2⟩:=relabel_mem (scope:=scope) h
    exact⟨k1,List.mem_cons_of_mem _ h1,h2⟩
theorem relabel_free{env:Env}:∀ {l:List (Str×NameKind)}{x:Str},l.lookup x=some .free ->
  (l.map fun(n,k)=>if(k == NameKind.free && env.scope.kind == .function && env.kindOf n == some .cell)then(n,NameKind.cell)else(n,k)).lookup x=some .cell \/
  (l.map fun(n,k)=>if(k == NameKind.free && env.scope.kind == .function && env.kindOf n == some .cell)then(n,NameKind.cell)else(n,k)).lookup x=some .free
 |[],_,h=>by simp at h
 |(n,k) :: r,x,h=>by
  rw[List.map_cons]
  dsimp only
  rw[List.lookup_cons]at h
  by_cases hx:(x == n)=true
  ·rw[hx]at h
   have hk:k = .free:=by cases h;rfl
   by_cases hc:(k == NameKind.free && env.scope.kind == .function && env.kindOf n == some .cell)=true
   ·left;rw[if_pos hc,List.lookup_cons,hx]
   ·right;rw[if_neg hc,List.lookup_cons,hx,hk]
  ·rw[Bool.eq_false_iff.mpr hx]at h
   have ih:=relabel_free (env:=env) h
   by_cases hc:(k == NameKind.free && env.scope.kind == .function && env.kindOf n == some .cell)=true
   ·rw[if_pos hc,List.lookup_cons,Bool.eq_false_iff.mpr hx];exact ih
   ·rw[if_neg hc,List.lookup_cons,Bool.eq_false_iff.mpr hx];exact ih
theorem lookup_mem{α:Type}[BEq α][LawfulBEq α]{β:Type}:∀ {l:List (α×β)}{x:α}{k:β},l.lookup x=some k->(x,k)∈l
 |[],_,_,h=>by simp at h
 |(n,k') :: r,x,k,h=>by
  rw[List.lookup_cons]at h
  by_cases hx:(x == n)=true
  ·rw[hx]at h
   have:x=n:=by simpa using hx
   subst this
   cases h
   exact List.mem_cons_self
  ·rw[Bool.eq_false_iff.mpr hx]at h
   exact List.mem_cons_of_mem _ (lookup_mem h)
noncomputable def cxIn(X:Cx)(N':List Str)(scope:Scope)(C:Addr)(s2:Shared)(H2:Hp)(fp:List Addr):Cx :=
 { X with N:=N',s₀:=s2,H₀:=H2,env:=compEnvC scope (closCl X.env.cells scope.names []) C X.env,outer:=X.stack,ex:=fp,fn:=fun _=>false,xe:=fun _ _=>False }
noncomputable def capt(cap:List (Option Nat))(σ:St):St:=cap.map fun o=>o.bind fun j=>(σ[j]?).join
structure CompScope(N':List Str)(cap:List (Option Nat))(N:List Str)(sc0 scope:Scope):Prop where
 kind:scope.kind = .function
 nocell:∀ x∈scope.names,x.2≠.cell
 loc:∀ x∈scope.names,x.2 = .local->scope.names.lookup x.1=some .local
 fre:∀ x∈scope.names,x.2 = .free->sc0.names.lookup x.1=some .cell\/sc0.names.lookup x.1=some .free
 len:cap.length=N'.length
 cap:∀ j∈List.range cap.length,match cap[j]? with
  |some (some i)=>match N'[j]? with
   |some x=>N[i]?=some x/\scope.names.lookup x=some .free
   |none=>False
  | _=>True
section
variable{X:Cx}{N':List Str}{cap:List (Option Nat)}{scope:Scope}{C:Addr}{s2 s4:Shared}{H2:Hp}{fp:List Addr}{pins:List (Addr×Obj)}{σ:St}
theorem CompScope.clos(S:CompScope N' cap X.N X.env.scope scope)(I:Inv X pins σ H2 s2):∀ x∈scope.names,x.2 = .free->∃ c,X.env.cells.lookup x.1=some c :=
 fun x hx hf=>I.ok.has x.1 (S.fre x hx hf)
theorem cxIn_ok(S:CompScope N' cap X.N X.env.scope scope)(I:Inv X pins σ H2 s2)(hC:s2.heap.objs.size<=C)(hfp:∀ b∈fp,FpOk X pins H2 b)(hfo:∀ b∈fp,∃ o,s2.heap.get? b=some o):(cxIn X N' scope C s2 H2 fp).Ok where
 mod:=I.ok.mod
 kind:=S.kind
 glob:=I.ok.glob
 blt:=I.ok.blt
 above:=hC
 inj:=fun x y c e1 e2=>I.ok.inj x y c (closCl_sound _ _ (S.clos I) (fun y c e=>by simp at e) x c e1) (closCl_sound _ _ (S.clos I) (fun y c e=>by simp at e) y c e2)
 has:=fun x h=>by
  have hm:(x,NameKind.free)∈scope.names:=by
   rcases h with h | h
   ·obtain⟨k,hk,e |⟨e,_⟩⟩:=relabel_mem (scope:=scope) (l:=scope.names) h
    ·subst e;exact absurd rfl (S.nocell _ hk)
    ·subst e;exact hk
   ·obtain⟨k,hk,e |⟨_,e⟩⟩:=relabel_mem (scope:=scope) (l:=scope.names) h
    ·subst e;exact hk
    ·cases e
  exact closCl_has _ _ x hm
 cab:=fun _ _ h _=>nomatch h
 hd:=I.ok.hd
 frames:=I.ok.frames
 stk:=.inl rfl
 exf:=fun b hb=>⟨fun z=>by
   obtain⟨o,ho⟩:=hfo b hb
   have h1:=Nat.lt_of_lt_of_le (Heap.lt_size ho) hC
   have z:b=C:=z
   rw[z]at h1
   exact Nat.lt_irrefl _ h1,fun x c e=>(hfp b hb).2.2.2.2.1 x c (closCl_sound _ _ (S.clos I) (fun y c e=>by simp at e) x c e)⟩
 bs:=I.bs
 bsz:=Nat.le_trans I.ok.bsz I.sz
 noex:=fun b o e hb=>by
  rcases(hfp b hb).2.2.2.1 with z | z
  ·exact I.ok.noex b o e z
  ·exact absurd (Nat.lt_of_lt_of_le (Heap.lt_size e) (Nat.le_trans I.ok.bsz z)) (Nat.lt_irrefl _)
 exfs:=fun b hb z=>by
  rcases List.mem_cons.mp (I.stkSub b z)with e | e
  ·exact(hfp b hb).2.1 e
  ·exact(hfp b hb).2.2.1 e
 funs:=I.stack
 frf:=I.stkFree
theorem cxIn_inv(S:CompScope N' cap X.N X.env.scope scope)(I:Inv X pins σ H2 s2)(hC:s2.heap.objs.size<=C)(hfp:∀ b∈fp,FpOk X pins H2 b)(hfo:∀ b∈fp,∃ o,s2.heap.get? b=some o)
  (ho:s4.os=s2.os) (hg:s4.gens=s2.gens) (k:∀ b o,s2.heap.get? b=some o->s4.heap.get? b=some o) {m:Str->Option Value} (hn:s4.heap.Ns C m) {D:Addr}{oD:Obj}
  (hD:s4.heap.get? D=some oD) (hDs:s2.heap.objs.size<=D) (hDC:D≠C) (hDc:∀ v,oD.data≠.cell v) :
  Inv (cxIn X N' scope C s2 H2 fp) (pins++[(D,oD)]) (capt cap σ) H2 s4 where
 ok:=cxIn_ok S I hC hfp hfo
 os:=ho
 bare:=by rw[hg];exact I.bare
 base:=Un.kept k
 loc:=by
  refine⟨m,hn,fun j x v e1 e2 _=>?_⟩
  have hj:j<cap.length:=by rw[S.len];exact(List.getElem?_eq_some_iff.mp e1).1
  have e1:N'[j]?=some x:=e1
  have hc:=S.cap j (List.mem_range.mpr hj)
  unfold capt at e2
  rw[List.getElem?_map]at e2
  cases hq:cap[j]? with
  |none=>rw[hq]at e2;cases e2
  |some o =>
   rw[hq]at e2 hc
   cases o with
   |none=>cases e2
   |some i =>
    simp only[e1]at hc
    obtain⟨hN,hfr⟩:=hc
    have e3:σ[i]?=some (some v):=by
     have e2:(σ[i]?).join=some v:=Option.some.inj e2
     cases hs:σ[i]? with
     |none=>rw[hs]at e2;cases e2
     |some w=>rw[hs]at e2;have e2:w=some v:=e2;rw[e2]
    have hm:=lookup_mem hfr
    have hk:=S.fre _ hm rfl
    obtain⟨m0,hn0,hl0⟩:=I.loc
    obtain⟨u,r,l⟩:=hl0 i x v hN e3 (.inr hk)
    refine⟨u,r,?_⟩
    rcases l with⟨l,_⟩ |⟨_,c,e,z⟩
    ·rcases hk with hk | hk
     ·rw[show X.env.kindOf x=some .cell from hk]at l;cases l
     ·rw[show X.env.kindOf x=some .free from hk]at l;cases l
    ·obtain⟨c',hc'⟩:=closCl_has (cells:=X.env.cells) scope.names [] x hm
     have hs:=closCl_sound scope.names [] (S.clos I) (fun y c e=>by simp at e) x c' hc'
     rw[e]at hs
     cases hs
     refine .inr ⟨relabel_free hfr,c,hc',?_⟩
     obtain⟨oc,ho',hd'⟩:=z
     exact⟨oc,k _ _ ho',hd'⟩
 cell:=fun x c e=>by
  obtain⟨v,oc,ho',hd'⟩:=I.cell x c (closCl_sound scope.names [] (S.clos I) (fun y c e=>by simp at e) x c e)
  exact⟨v,oc,k _ _ ho',hd'⟩
 free:=I.hok.fresh hC
 freeC:=fun x c e=>I.freeC x c (closCl_sound scope.names [] (S.clos I) (fun y c e=>by simp at e) x c e)
 pin:=fun p hp=>by
  have hp:p∈X.pn++(pins++[(D,oD)]):=hp
  have cne:∀ b o,s2.heap.get? b=some o->b≠C:=fun b o e z=>by
   have h1:=Nat.lt_of_lt_of_le (Heap.lt_size e) hC
   rw[z]at h1
   exact Nat.lt_irrefl _ h1
  rw[<- List.append_assoc]at hp
  rcases List.mem_append.mp hp with hp | hp
  ·obtain⟨e,n,ne,nf,d⟩:=I.pin p hp
   exact⟨k _ _ e,n,cne _ _ e,fun z=>by
    rcases List.mem_cons.mp (I.stkSub p.1 z)with e | e
    ·exact ne e
    ·exact nf e,d⟩
  ·have e:p=(D,oD):=by simpa using hp
   subst e
   refine⟨hD,I.hok.fresh hDs,hDC,fun z=>?_,hDc⟩
   rcases List.mem_cons.mp (I.stkSub D z)with e | e
   ·have h1:=Nat.lt_of_lt_of_le I.lt hDs
    rw[e]at h1
    exact Nat.lt_irrefl _ h1
   ·exact I.nofs hDs e
 hok:=I.hok.kept k
 len:=by unfold capt;rw[List.length_map];exact S.len
end
noncomputable def PF(X:Cx)(ifs:List Expr)(t:TT):Prop :=
 ∀ (pins:List (Addr×Obj)) (s:Shared) (σ:St) (H:Hp) (Q:Bool->Hp->Prop),Inv X pins σ H s->t σ H Q ->
  wpAny (model X.prog X.w) X.A (forIn ifs true fun c r=>if r=true then do let ok <- isTrue c X.env (eval c X.env);pure (ForInStep.yield ok)else pure (ForInStep.yield r)) (TP X pins σ Q) X.xe s
noncomputable def tTru:TT:=fun _ H Q=>Q true H
theorem pf_nil{X:Cx}:PF X [] tTru:=fun _ _ _ H _ I h=>wpAny_tests_nil ⟨H,I,h⟩
theorem pf_one{X:Cx}{c:Expr}{t:TT}(h:PT X c t):PF X [c] t:=fun pins s σ H Q I q=>wpAny_tests_one (h pins s σ H Q I q)
section
variable{prog:Program}{w:World}{A:Around}{E:Value->Shared->Prop}{R:Result->Shared->Prop}{s:Shared}
theorem codeAny_compLoop_any{elt target iter:Expr}{ifs:List Expr}{scope:Scope}{pos:Pos}{it acc:Value}{env:Env}(I:Nat->Shared->Prop)
  (turn:∀ n s,I n s->wpAny (model prog w) A (pyNext it) (fun r s₁=>match r with
   |none=>R (.ok .next) s₁
   |some v=>wpAny (model prog w) A (letOwnedTupleGo target it v) (fun _ s₁'=>wpAny (model prog w) A (assign target env v) (fun _ s₂ =>
     wpAny (model prog w) A (forIn ifs true fun c r=>if r=true then do let ok <- isTrue c env (eval c env);pure (ForInStep.yield ok)else pure (ForInStep.yield r)) (fun ok s₃ =>
      if ok=true then wpAny (model prog w) A (eval elt env) (fun x s₄ =>
       wpAny (model prog w) A (call (.builtin "list.append") [acc,x]) (fun _ s₅=>∃ m,m<n/\I m s₅) (fun _ _=>False) s₄) (fun _ _=>False) s₃
      else ∃ m,m<n/\I m s₃) (fun _ _=>False) s₂) (fun _ _=>False) s₁') (fun _ _=>False) s₁) (fun _ _=>False) s)
  (n:Nat) (h:I n s) :
  codeAny (model prog w) A (.compLoop (.ListComp elt [⟨target,iter,ifs,0⟩] scope pos) 0 it acc env) R s:=by
 refine codeAny_loop rfl I (fun n s hI=>?_) n h
 show wpAny _ A ((compTurn (.ListComp elt [⟨target,iter,ifs,0⟩] scope pos) 0 it acc env).onRaise (fun x=>do noteFrame x env;theTreesLotGoes x)) _ _ s
 refine wpAny_noted ?_
 rw[compTurn_list]
 refine wpAny_bind (wpAny_standAt (wpAny_bind (wpAny_mono (turn n s hI) (fun r s₁ h₁=>?_) fun _ _ h'=>h'.elim)))
 cases r with
 |none=>exact wpAny_pure h₁
 |some v =>
  refine wpAny_bind (wpAny_mono h₁ (fun _ s₁' h₁'=>?_) fun _ _ h'=>h'.elim)
  refine wpAny_bind (wpAny_mono h₁' (fun _ s₂ h₂=>wpAny_bind (wpAny_mono h₂ (fun ok s₃ h₃=>?_) fun _ _ h'=>h'.elim)) fun _ _ h'=>h'.elim)
  cases ok with
  |false=>exact wpAny_pure ⟨rfl,h₃⟩
  |true =>
   exact wpAny_bind (wpAny_bind (wpAny_mono h₃ (fun x s₄ h₄=>wpAny_bind (wpAny_mono h₄ (fun _ s₅ h₅=>wpAny_pure (wpAny_pure ⟨rfl,h₅⟩)) fun _ _ h'=>h'.elim)) fun _ _ h'=>h'.elim))
end
noncomputable def Kp:St->St->Prop
 |[],[]=>True
 |none :: r,_ :: r'=>Kp r r'
 |some v :: r,o :: r'=>o=some v/\Kp r r'
 | _,_=>False
theorem Kp.length:∀ {a b:St},Kp a b->a.length=b.length
 |[],[],_=>rfl
 |none :: r,_ :: r',h=>congrArg (· + 1) (Kp.length (a:=r) (b:=r') h)
 |some v :: r,o :: r',h=>congrArg (· + 1) (Kp.length (a:=r) (b:=r') h.2)
 |[],_ :: _,h=>h.elim
 |none :: _,[],h=>h.elim
 |some _ :: _,[],h=>h.elim
theorem Kp.get:∀ {a b:St},Kp a b->∀ (i:Nat) (v:V),a[i]?=some (some v)->b[i]?=some (some v)
 |[],[],_,i,v,e=>e
 |none :: r,_ :: r',h,0,v,e=>by simp at e
 |none :: r,_ :: r',h,i+1,v,e=>by simpa using Kp.get (a:=r) (b:=r') h i v (by simpa using e)
 |some w :: r,o :: r',h,0,v,e=>by rw[h.1];simpa using e
 |some w :: r,o :: r',h,i+1,v,e=>by simpa using Kp.get (a:=r) (b:=r') h.2 i v (by simpa using e)
 |[],_ :: _,h,_,_,_=>h.elim
 |none :: _,[],h,_,_,_=>h.elim
 |some _ :: _,[],h,_,_,_=>h.elim
noncomputable def compTurns(J:It)(cap:List (Option Nat))(σ:St)(H1:Hp)(Q:VK)(g:TG)(tc:TT)(te:TE):Prop:=∃ (n:Nat) (P:Nat->List V->Hp->Prop),n<=sizeLine/\P 0 [] H1 /\
 ∀ i ys H,ys.length<=i->i<=n->P i ys H->(J.stop i H/\∀ D,H D=none->Q (.ref D) (upd H D (.lst ys))) \/
  (i<n/\J.go i H/\∀ x H',J.yld i H x H'->g x (capt cap σ) H' fun σ2 H2=>Kp (capt cap σ) σ2/\tc σ2 H2 fun b H3=>if b=true then te σ2 H3 fun y H4=>P (i+1) (ys++[y]) H4 else P (i+1) ys H3)
noncomputable def tComp(cap:List (Option Nat))(wi:TI)(g:TG)(tc:TT)(te:TE):TE:=fun σ H Q=>wi σ H fun J H1=>compTurns J cap σ H1 Q g tc te
noncomputable def CompEnd(X:Cx)(pins:List (Addr×Obj))(σ:St)(Q:VK)(acc:Value)(C:Addr)(r:Result)(s':Shared):Prop :=
 match r with
 | .ok _=>∃ v H',Inv X pins σ H' s'/\RelV v acc/\Q v H'/\(∃ m,s'.heap.Ns C m)/\FpOk X pins H' C
 | .error _=>False
section
variable{X:Cx}{elt tg iter:Expr}{ifs:List Expr}{scope:Scope}{pos:Pos}{N':List Str}{cap:List (Option Nat)}{wi:TI}{g:TG}{tc:TT}{te:TE}
theorem comp_run(hc:X.calm=true)(S:CompScope N' cap X.N X.env.scope scope)(hi:PI X tg iter wi)(hg:∀ C s H fp,PG (cxIn X N' scope C s H fp) tg g)
  (ht:∀ C s H fp,PF (cxIn X N' scope C s H fp) ifs tc) (he:∀ C s H fp,PE (cxIn X N' scope C s H fp) elt te)
  {pins:List (Addr×Obj)}{s:Shared}{σ:St}{H:Hp}{Q:VK} (I:Inv X pins σ H s) (h:tComp cap wi g tc te σ H Q) :
  wpAny (model X.prog X.w) X.A (eval iter X.env) (fun x s₁=>wpAny (model X.prog X.w) X.A (pyIter x) (fun it s₂=>wpAny (model X.prog X.w) X.A (newList []) (fun acc s₃ =>
   wpAny (model X.prog X.w) X.A (newFunctionEnv scope X.env.globals (closCl X.env.cells scope.names []) [] X.env.qual none .none (some X.env)) (fun cenv s₄ =>
    codeAny (model X.prog X.w) X.A (.compStart (.ListComp elt [⟨tg,iter,ifs,0⟩] scope pos) 0 it acc { cenv with scope:=relabel scope X.env }) (CompEnd X pins σ Q acc cenv.locals) s₄) X.xe s₃) X.xe s₂) X.xe s₁) X.xe s:=by
 refine thn (hi pins s σ H _ I h) fun v s1 h1=>thn h1 fun itv s2 h2=>?_
 obtain⟨it,fp,tn,J,H2,e,I2,T,st2,f2,n,P,hn,p0,turn⟩:=h2
 subst e
 refine wpAny_newObj_type (wpAny_newFunctionEnv S.nocell (by intro y hy;simp at hy) (fun h₁ hns₁ hsb₁=>?_) S.kind)
 dsimp only at hns₁ hsb₁ ⊢
 generalize hHp:s2.heap.push { cls:=.type "list",dict:=none,data:=.seq ([]:List Value).toArray } = Hq at hns₁ hsb₁ ⊢
 have hC:Hq.objs.size=s2.heap.objs.size+1:=by rw[<- hHp,Heap.size_push]
 have hDC:s2.heap.objs.size≠Hq.objs.size:=by rw[hC];exact Nat.ne_of_lt (Nat.lt_succ_self _)
 have hCle:s2.heap.objs.size<=Hq.objs.size:=by rw[hC];exact Nat.le_succ _
 have old:∀ b o,s2.heap.get? b=some o->h₁.get? b=some o:=fun b o e =>
  hsb₁.extBut b o (by rw[hC];exact Nat.ne_of_lt (Nat.lt_succ_of_lt (Heap.lt_size e))) (Heap.get?_push_of_some _ (hHp▸Heap.get?_push_of_some _ e))
 have hacc:h₁.PlainList s2.heap.objs.size #[]:=⟨_,hsb₁.extBut _ _ hDC (Heap.get?_push_of_some _ (hHp▸Heap.get?_push_size _ rfl))⟩
 have hfo:∀ b∈fp,∃ o,s2.heap.get? b=some o:=fun b hb=>let ⟨o,e,_⟩:=T.obj _ _ st2 b hb;⟨o,e⟩
 have st4:tn 0 h₁:=T.keep _ _ _ st2 fun b _ o e=>old b o e
 let D:Addr:=s2.heap.objs.size
 let C:Addr:=Hq.objs.size
 let Y:Cx:=cxIn X N' scope C s2 H2 fp
 have hDfp:D∉fp:=fun hb=>by
  obtain⟨o,e⟩:=hfo D hb
  exact Nat.lt_irrefl _ (Heap.lt_size e)
 -- the iterator's objects,seen from within
 have stat:∀ {H':Hp}{oD:Obj},(∀ b∈fp,H' b=none)->∀ b∈fp,FpOk Y (pins++[(D,oD)]) H' b:=fun {H' oD} hn b hb=>by
  obtain⟨f0,f1,fx,f3,f4,f5⟩:=f2 b hb
  obtain⟨o,e⟩:=hfo b hb
  refine⟨hn b hb,fun z=>?_,fun z=>?_,.inl hb,fun x c e=>f4 x c (closCl_sound _ _ (S.clos I2) (fun y c e=>by simp at e) x c e),fun p hp=>?_⟩
  ·have h1:=Nat.lt_of_lt_of_le (Heap.lt_size e) hCle
   have z:b=Hq.objs.size:=z
   rw[z]at h1
   exact Nat.lt_irrefl _ h1
  ·rcases List.mem_cons.mp (I2.stkSub b z)with e | e
   ·exact f1 e
   ·exact fx e
  ·have hp:p∈X.pn++(pins++[(D,oD)]):=hp
   rw[<- List.append_assoc]at hp
   rcases List.mem_append.mp hp with hp | hp
   ·exact f5 p hp
   ·have q:p=(D,oD):=by simpa using hp
    subst q
    exact fun z=>hDfp (by rw[show D=b from z];exact hb)
 have loop:∀ s₃:Shared,s₃ = { s2 with heap:=h₁,toks:=s2.toks+([]:List (Str×Value)).length } ->
   codeAny (model X.prog X.w) X.A (.compLoop (.ListComp elt [⟨tg,iter,ifs,0⟩] scope pos) 0 (.ref it) (.ref s2.heap.objs.size) (compEnvC scope (closCl X.env.cells scope.names []) Hq.objs.size X.env))
    (CompEnd X pins σ Q (.ref s2.heap.objs.size) Hq.objs.size) s₃:=by
  rintro s₃ rfl
  have cellD:∀ x c,Y.env.cells.lookup x=some c->c≠D:=fun x c e z=>by
   obtain⟨v,q⟩:=I2.cell x c (closCl_sound _ _ (S.clos I2) (fun y c e=>by simp at e) x c e)
   have h1:=q.lt
   rw[show c=s2.heap.objs.size from z]at h1
   exact Nat.lt_irrefl _ h1
  have pinD:∀ p∈X.pn++pins,p.1≠D:=fun p hp z=>by
   have h1:=Heap.lt_size (I2.pin p hp).1
   rw[show p.1=s2.heap.objs.size from z]at h1
   exact Nat.lt_irrefl _ h1
  have inD:∀ {pl:List (Addr×Obj)}{oD:Obj},(D,oD)∈Y.pn++((pins++[(D,oD)])++pl):=fun {pl oD}=>List.mem_append_right _ (List.mem_append_left _ (List.mem_append_right _ (by simp)))
  have inF:∀ {pl:List (Addr×Obj)}{oD:Obj}{p:Addr×Obj},p∈pl->p∈Y.pn++((pins++[(D,oD)])++pl):=fun {pl oD p} hp=>List.mem_append_right _ (List.mem_append_right _ hp)
  refine codeAny_compLoop_any (fun m s'=>∃ i ys H' its ep,m=n-i/\i<=n/\ys.length<=i/\Vals ys its/\Inv Y (pins++[(D,{ cls:=.type "list",data:=.seq its.toArray ep })]) (capt cap σ) H' s'/\tn i s'.heap/\(∀ b∈fp,H' b=none)/\P i ys H') ?_ n ?_
  ·rintro m s3 ⟨i,ys,H3,its,ep,rfl,hin,hyl,rv,I3,st3,fr3,p3⟩
   rcases turn i ys H3 hyl hin p3 with⟨stop,q⟩ |⟨hlt,go,step⟩
   ·refine thn (T.done Y rfl rfl rfl hc i _ s3 _ H3 (fun _ _=>False) I3 (stat fr3) st3 stop) fun r s4 ⟨hr,I4⟩=>?_
    subst hr
    obtain⟨eD,nD,_⟩:=I4.pin (D,{ cls:=.type "list",data:=.seq its.toArray ep }) (List.mem_append_right _ (List.mem_append_right _ (by simp)))
    have nD:H3 D=none:=nD
    have okn:ObjOk X.prog X.w (upd H3 D (.lst ys)) s4.heap D (.lst ys):=⟨Nat.le_trans hyl (Nat.le_trans hin hn),its,ep,rv,eD⟩
    have hok:HOk X.prog X.w (upd H3 D (.lst ys)) s4.heap:=fun b u e=>by
     by_cases hb:b=D
     ·subst hb;rw[upd_same]at e;cases e;exact okn
     ·rw[upd_ne hb]at e
      exact(I4.hok b u e).stay (fun c v _ q=>q) (fun c q=>by rw[upd_ne (ne_of_none q nD)];exact q) fun c xs q=>by rw[upd_ne (ne_of_none q nD)];exact q
    have B:=I4.base
    have u:Un (frs X.stack) fp H2 (upd H3 D (.lst ys)) s2.heap s4.heap :=
     ⟨B.keep,B.slot,fun b o e n hx=>by rw[upd_ne (Nat.ne_of_lt (Heap.lt_size e))];exact B.free b o e n hx,B.there,fun b xs e=>by rw[upd_ne (ne_of_none (B.tups b xs e) nD)];exact B.tups b xs e,
      fun b o xs e=>by rw[upd_ne (ne_of_none (B.frzs b o xs e) nD)];exact B.frzs b o xs e,fun b ps e=>by
       obtain⟨more,z⟩:=B.tbls b ps e
       exact⟨more,by rw[upd_ne (ne_of_none z nD)];exact z⟩⟩
    have IX:Inv X pins σ (upd H3 D (.lst ys)) s4:=I2.call' (ch:=fp) I4.os u hok I4.bare fun b hb=>by
     obtain⟨f0,f1,fx,f3,f4,f5⟩:=f2 b hb
     exact⟨f3,f1,f4,f5⟩
    have nC:(upd H3 D (.lst ys)) Hq.objs.size=none:=by rw[upd_ne (Ne.symm hDC)];exact I4.free
    obtain⟨m',hm',_⟩:=I4.loc
    exact⟨.ref D,_,IX,rfl,q D nD,⟨m',hm'⟩,I2.fpOk hCle nC⟩
   ·refine thn (T.item Y rfl rfl rfl hc i _ s3 _ H3 (fun _ _=>False) I3 (stat fr3) st3 go) fun r s4 ⟨u,hr,h4⟩=>?_
    subst hr
    refine thn h4 fun _ s5 ⟨x,H5,I5,r5,y5,st5,fr5⟩=>?_
    have I5':=I5.pinned (stat fr5) (T.obj _ _ st5)
    refine thn (hg C s2 H2 fp _ s5 _ H5 x u _ I5' r5 (step x H5 y5)) fun _ s6 ⟨σ6,H6,I6,kp,q6⟩=>?_
    refine thn (ht C s2 H2 fp _ s6 σ6 H6 _ I6 q6) fun b s7 ⟨H7,I7,q7⟩=>?_
    cases b with
    |false =>
     rw[if_neg Bool.false_ne_true]at q7 ⊢
     refine⟨n-(i+1),Nat.sub_succ_lt_self n i hlt,i+1,ys,H7,its,ep,rfl,hlt,Nat.le_succ_of_le hyl,rv,I7.unpinned.weak kp.length kp.get,?_,fun b hb=>?_,q7⟩
     ·exact T.keep _ _ _ st5 fun b hb o e=>(I7.pin (b,o) (inF (mem_pinsAt hb e))).1
     ·obtain⟨o,e,d⟩:=T.obj _ _ st5 b hb
      exact(I7.pin (b,o) (inF (mem_pinsAt hb e))).2.1
    |true =>
     rw[if_pos rfl]at q7 ⊢
     refine thn (he C s2 H2 fp _ s7 σ6 H7 _ I7 q7) fun yv s8 ⟨y,H8,I8,r8,q8⟩=>?_
     obtain⟨eD,nD,_⟩:=I8.pin (D,{ cls:=.type "list",data:=.seq its.toArray ep }) inD
     have hsz:its.toArray.size<=sizeLine:=by
      rw[List.size_toArray,<- rv.length]
      exact Nat.le_trans hyl (Nat.le_trans hin hn)
     refine wpAny_list_append_plain (items:=its.toArray) ⟨ep,eD⟩ (fun h9 pl9 sb9=>?_) hsz
     obtain⟨ep',e9⟩:=pl9
     have e9:h9.get? D=some { cls:=.type "list",data:=.seq (its++[yv]).toArray ep' }:=by rw[e9];simp
     have Ia:Inv Y pins σ6 H8 s8:=I8.pins_of fun p hp=>I8.pin p (List.mem_append_right _ (List.mem_append_left _ (List.mem_append_left _ hp)))
     have Ib:Inv Y pins σ6 H8 { s8 with heap:=h9 }:=Ia.turned (it:=D) (t':=s8.toks) (fun b o hb e=>(sb9.2 b hb).trans e) nD hDC (.inr (Nat.le_refl _)) cellD pinD
     have Ic:Inv Y (pins++[(D,{ cls:=.type "list",data:=.seq (its++[yv]).toArray ep' })]) σ6 H8 { s8 with heap:=h9 }:=Ib.pins_of fun p hp=>by
      rcases List.mem_append.mp hp with hp | hp
      ·exact Ib.pin p (List.mem_append_right _ hp)
      ·have q:p=(D,{ cls:=.type "list",data:=.seq (its++[yv]).toArray ep' }):=by simpa using hp
       subst q
       obtain⟨_,_,z1,z2,_⟩:=I8.pin (D,{ cls:=.type "list",data:=.seq its.toArray ep }) inD
       exact⟨e9,nD,z1,z2,fun v z=>by cases z⟩
     refine⟨n-(i+1),Nat.sub_succ_lt_self n i hlt,i+1,ys++[y],H8,its++[yv],ep',rfl,hlt,by simp;omega,Vals.append rv (.cons r8 .nil),Ic.weak kp.length kp.get,?_,fun b hb=>?_,q8⟩
     ·exact T.keep _ _ _ st5 fun b hb o e=>sb9.extBut b o (fun z=>hDfp (by rw[show D=b from Eq.symm z];exact hb)) (I8.pin (b,o) (inF (mem_pinsAt hb e))).1
     ·obtain⟨o,e,d⟩:=T.obj _ _ st5 b hb
      exact(I8.pin (b,o) (inF (mem_pinsAt hb e))).2.1
  ·obtain⟨ep,e⟩:=hacc
   refine⟨0,[],H2,[],ep,rfl,Nat.zero_le _,Nat.le_refl _,.nil,?_,st4,fun b hb=>(f2 b hb).1,p0⟩
   exact cxIn_inv (s4:={ s2 with heap:=h₁,toks:=s2.toks+([]:List (Str×Value)).length }) S I2 hCle f2 hfo rfl rfl old hns₁ e (Nat.le_refl _) hDC fun v z=>by cases z
 exact codeAny_compStart_list (loop _ rfl) (T.self X.A 0 _ _ _ st4 (loop _ rfl))
theorem pe_comp(hc:X.calm=true)(S:CompScope N' cap X.N X.env.scope scope)(hi:PI X tg iter wi)(hg:∀ C s H fp,PG (cxIn X N' scope C s H fp) tg g)
  (ht:∀ C s H fp,PF (cxIn X N' scope C s H fp) ifs tc) (he:∀ C s H fp,PE (cxIn X N' scope C s H fp) elt te)
  (hs:∀ x,foldedSetIterable iter X.env x=pure x:=by intro _;rfl):PE X (.ListComp elt [⟨tg,iter,ifs,0⟩] scope pos) (tComp cap wi g tc te):=by
 intro pins s σ H Q I h
 rw[eval_ListComp]
 refine wpAny_comprehension_free (use:=none) rfl hs (closureFor_cells (S.clos I)) S.kind S.loc (thn (comp_run (pos:=pos) hc S hi hg ht he I h) fun x s1 h1=>thn h1 fun it s2 h2=>thn h2 fun acc s3 h3=>thn h3 fun cenv s4 h4=>?_)
 refine codeAny_mono h4 fun r s' hr=>?_
 cases r with
 |error x=>exact hr.elim
 |ok f =>
  obtain⟨v,H',I',rv,q,⟨m,hn⟩,f0,f1,f2,f3,f4,f5⟩:=hr
  refine⟨m,hn,fun h' sb=>⟨v,H',I'.turned (it:=cenv.locals) (t':=s'.toks) (fun b o hb e=>(sb.2 b hb).trans e) f0 f1 f3 f4 f5,rv,q⟩⟩
theorem ps_comp{i:Nat}{x:Str}{pos' spos:Pos}(hN:X.N.Nodup)(hx:X.N[i]?=some x)(hl:Loc X.env.scope x)(hc:X.calm=true)(S:CompScope N' cap X.N X.env.scope scope)(hi:PI X tg iter wi)(hg:∀ C s H fp,PG (cxIn X N' scope C s H fp) tg g)
  (ht:∀ C s H fp,PF (cxIn X N' scope C s H fp) ifs tc) (he:∀ C s H fp,PE (cxIn X N' scope C s H fp) elt te)
  (hs:∀ x,foldedSetIterable iter X.env x=pure x:=by intro _;rfl) (hsw:swapsWith (.ListComp elt [⟨tg,iter,ifs,0⟩] scope pos) (some (.Name x pos')) spos.line X.env=pure true:=by rfl)
  (hf:X.fn x=true\/X.env.scope.names.lookup x=some .local:=by first | exact .inl rfl | exact .inr rfl | assumption) :
  PS X (.Assign [.Name x pos'] (.ListComp elt [⟨tg,iter,ifs,0⟩] scope pos) spos) (tAsg (tComp cap wi g tc te) (gName i)):=by
 intro pins s σ H D I h
 rw[exec_Assign_Name_used _ _ _ _ hsw]
 refine wpAny_bind (wpAny_standAt (wpAny_bind ?_))
 show wpAny _ _ (do let _ <- comprehension (.ListComp elt [⟨tg,iter,ifs,0⟩] scope pos) scope X.env _ (newList []) false (eval iter X.env) (some (assign (.Name x pos') X.env))) _ _ s
 refine wpAny_bind (wpAny_mono (wpAny_comprehension_free (use:=some (assign (.Name x pos') X.env)) (Q:=fun _ s'=>SP X pins D .next s') rfl hs (closureFor_cells (S.clos I)) S.kind S.loc
  (thn (comp_run (pos:=pos) hc S hi hg ht he I h) fun x s1 h1=>thn h1 fun it s2 h2=>thn h2 fun acc s3 h3=>thn h3 fun cenv s4 h4=>?_)) (fun _ s' hq=>wpAny_pure (wpAny_pure hq)) fun _ _ e=>e)
 refine codeAny_mono h4 fun r s' hr=>?_
 cases r with
 |error x=>exact hr.elim
 |ok f =>
  obtain⟨v,H',I',rv,q,⟨m,hn⟩,f0,f1,f2,f3,f4,f5⟩:=hr
  show wpAny _ _ (assign (.Name _ pos') X.env acc) _ _ _
  refine wpAny_assign_Name (store_ok2 I' hN hx hl rv (fun s'' I'' ⟨a,sb,ha⟩=>?_) hf)
  have hac:cenv.locals≠a:=by
   rcases ha with ha | ha
   ·rw[ha];exact f1
   ·exact Ne.symm (f4 _ a ha)
  refine⟨m,hn.sameBut sb hac,fun h' sb'=>⟨_,H',I''.turned (it:=cenv.locals) (t':=s''.toks) (fun b o hb e=>(sb'.2 b hb).trans e) f0 f1 f3 f4 f5,q⟩⟩
end
end L2
namespace Srt
open PySem PyProof.Rows
noncomputable def LtOk(κ:KeyKind)(kd:SortKind)(prog:Program)(w:World)(A:Around)(s:Shared):Prop :=
 ∀ (E:Value->Shared->Prop) (x y:Keyed) (a b:κ.α) (Q:Option Bool->SortSt->Prop) (st:SortSt),kindOf st=kd->κ.keyOf x.1=some a->κ.keyOf y.1=some b ->
  Q (some (κ.blt a b)) st->wpS (model prog w) A E s (lt' x y) Q st
structure SB(kd:SortKind)(a₀ b:Array Keyed)(lo:Nat)(pd:Array (Nat×Nat×Nat))(st:SortSt):Prop where
 perm:(arrOf st).Perm a₀
 kind:kindOf st=kd
 failed:failedOf st=none
 pend:pendingOf st=pd
 low:∀ k,k<lo->(arrOf st)[k]?=b[k]?
noncomputable def SIn(κ:KeyKind)(xs:Array Keyed)(lo n:Nat):Prop:=∀ i j,i<=j->j<n->κ.kle (KK κ xs (lo+i)) (KK κ xs (lo+j))
noncomputable def DIn(κ:KeyKind)(xs:Array Keyed)(lo n:Nat):Prop:=∀ i j,i<=j->j<n->κ.kle (KK κ xs (lo+j)) (KK κ xs (lo+i))
theorem at_key{κ:KeyKind}{a₀ xs:Array Keyed}(hp:xs.Perm a₀)(h0:KeysOf κ a₀){i:Nat}(hi:i<xs.size):∃ p a,xs[i]?=some p/\κ.keyOf p.1=some a/\KK κ xs i=a:=by
 have hm:xs[i]∈a₀.toList:=(Array.perm_iff_toList_perm.mp hp).mem_iff.mp (by simp)
 obtain⟨a,ha⟩:=h0 _ hm
 have e:xs[i]?=some xs[i]:=getElem?_pos _ i hi
 refine⟨xs[i],a,e,ha,?_⟩
 unfold KK;rw[e];simp[ha]
section
variable{prog:Program}{w:World}{A:Around}{E:Value->Shared->Prop}{s:Shared}{a₀ b:Array Keyed}{κ:KeyKind}{kd:SortKind}{lo:Nat}{pd:Array (Nat×Nat×Nat)}
theorem SB.size{st:SortSt}(h:SB kd a₀ b lo pd st):(arrOf st).size=a₀.size:=h.perm.size_eq
theorem SB.arr{st:SortSt}(h:SB kd a₀ b lo pd st){xs:Array Keyed}(hp:xs.Perm (arrOf st))(hl:∀ k,k<lo->xs[k]?=(arrOf st)[k]?):SB kd a₀ b lo pd (setArr st xs) :=
 ⟨hp.trans h.perm,h.kind,h.failed,h.pend,fun k hk=>(hl k hk).trans (h.low k hk)⟩
theorem SB.mirror{st:SortSt}(h:SB kd a₀ b lo pd st){i j:Nat}(hi:lo<=i)(hj:j<=a₀.size):SB kd a₀ b lo pd (setArr st (mirror (arrOf st) i j ((j-i) / 2))) :=
 h.arr (mirror_perm _ _ _ _) fun k hk=>by rw[getElem?_mirror_all (by rw[h.size];exact hj),if_neg (by lia)]
theorem elem_ok{arr:Array Keyed}{i:Nat}{p:Keyed}{Q:Keyed->SortSt->Prop}{st:SortSt}(h:arr[i]?=some p)(hq:Q p st):wpS (model prog w) A E s (elem' arr i) Q st:=by
 rw[elem'_eq,h];exact wpS_pure hq
theorem ltAt_ok{st:SortSt}{i j:Nat}{Q:Option Bool->SortSt->Prop}(hO:LtOk κ kd prog w A s)(hB:SB kd a₀ b lo pd st)(h0:KeysOf κ a₀)(hi:i<a₀.size)(hj:j<a₀.size)
  (h:Q (some (κ.blt (KK κ (arrOf st) i) (KK κ (arrOf st) j))) st):wpS (model prog w) A E s (ltAt' i j) Q st:=by
 obtain⟨x,a,e1,ha,ka⟩:=at_key hB.perm h0 (i:=i) (by rw[hB.size];exact hi)
 obtain⟨y,c,e2,hc,kc⟩:=at_key hB.perm h0 (i:=j) (by rw[hB.size];exact hj)
 rw[ka,kc]at h
 rw[ltAt'_eq]
 refine wpS_bind (wpS_get (wpS_bind (elem_ok e1 (wpS_bind (elem_ok e2 ?_)))))
 exact hO E x y a c Q st hB.kind ha hc h
theorem rev_ok{st:SortSt}{i j:Nat}{Q:Unit->SortSt->Prop}(h:Q () (setArr st (mirror (arrOf st) i j ((j-i) / 2)))):wpS (model prog w) A E s (reverseSlice' i j) Q st:=by
 rw[reverseSlice'_eq];exact wpS_modify h
theorem bcong{σ α β:Type}{m m':StateT σ Sem α}{f f':α->StateT σ Sem β}(h:m=m')(hf:∀ a,f a=f' a):(m >>= f)=(m' >>= f'):=by
 subst h
 rw[show f=f' from funext hf]
noncomputable def asc(lo a nrem:Nat):StateT SortSt Sem AscSt :=
 forIn [a:nrem] ((none,a):AscSt) fun _ c=>do
  let x <- ltAt' (lo+c.2) (lo+c.2-1)
  match x with
  |some sm=>if sm=true then pure (ForInStep.done (none,c.2))else pure (ForInStep.yield (none,c.2+1))
  | _=>pure (ForInStep.done (some none,c.2))
noncomputable def tl3(lo n nrem:Nat):StateT SortSt Sem (Option Nat):=do
 reverseSlice' lo (lo+n)
 let c <- asc lo n nrem
 match c.1 with
 |some r=>pure r
 |none=>pure (some c.2)
noncomputable def dsc(lo n nrem:Nat):StateT SortSt Sem DescSt :=
 forIn [n:nrem] ((none,n,0):DescSt) fun _ c=>do
  let x <- ltAt' (lo+c.2.1) (lo+c.2.1-1)
  match x with
  |some sm =>
   if sm=true then
    if c.2.2 > 0 then do
     reverseSlice' (lo+c.2.1-(c.2.2+1)) (lo+c.2.1)
     pure (ForInStep.yield (none,c.2.1+1,0))
    else pure (ForInStep.yield (none,c.2.1+1,0))
   else do
    let x <- ltAt' (lo+c.2.1-1) (lo+c.2.1)
    match x with
    |some la =>
     if la=true then pure (ForInStep.done (none,c.2.1,c.2.2))
     else pure (ForInStep.yield (none,c.2.1+1,c.2.2+1))
    | _=>pure (ForInStep.done (some none,c.2.1,c.2.2))
  | _=>pure (ForInStep.done (some none,c.2.1,c.2.2))
noncomputable def dpt(lo n nrem:Nat):StateT SortSt Sem (Option Nat):=do
 liftM (rule "list.sort.descending-run")
 let c <- dsc lo (n+1) nrem
 match c.1 with
 |some r=>pure r
 |none =>
  if c.2.2 > 0 then do
   reverseSlice' (lo+c.2.1-(c.2.2+1)) (lo+c.2.1)
   tl3 lo c.2.1 nrem
  else tl3 lo c.2.1 nrem
theorem count_eq(lo nrem:Nat):countRun' lo nrem=(do
  let c <- asc lo 1 nrem
  match c.1 with
  |some r=>pure r
  |none =>
   if(c.2 == nrem)=true then pure (some c.2)
   else if c.2 > 1 then do
    let x <- ltAt' lo (lo+c.2-1)
    match x with
    |some rose=>if rose=true then pure (some c.2)else do
      reverseSlice' lo (lo+c.2)
      dpt lo c.2 nrem
    | _=>pure none
   else dpt lo c.2 nrem):=by
 rw[countRun'_eq]
 unfold dpt tl3 dsc asc
 refine bcong rfl fun c=>?_
 obtain⟨r,n⟩:=c
 cases r with
 |some r=>rfl
 |none =>
  dsimp only
  split
  ·rfl
  ·split
   ·refine bcong rfl fun x=>?_
    cases x with
    |none=>rfl
    |some rose =>
     dsimp only
     split
     ·rfl
     ·refine bcong rfl fun _=>bcong rfl fun _=>bcong rfl fun s2=>?_
      obtain⟨r2,n2,q2⟩:=s2
      cases r2 with
      |some r2=>rfl
      |none =>
       dsimp only
       split
       ·refine bcong rfl fun _=>bcong rfl fun _=>bcong rfl fun s3=>?_
        obtain⟨r3,n3⟩:=s3
        cases r3 <;> rfl
       ·refine bcong rfl fun _=>bcong rfl fun s3=>?_
        obtain⟨r3,n3⟩:=s3
        cases r3 <;> rfl
   ·refine bcong rfl fun _=>bcong rfl fun s2=>?_
    obtain⟨r2,n2,q2⟩:=s2
    cases r2 with
    |some r2=>rfl
    |none =>
     dsimp only
     split
     ·refine bcong rfl fun _=>bcong rfl fun _=>bcong rfl fun s3=>?_
      obtain⟨r3,n3⟩:=s3
      cases r3 <;> rfl
     ·refine bcong rfl fun _=>bcong rfl fun s3=>?_
      obtain⟨r3,n3⟩:=s3
      cases r3 <;> rfl
theorem asc_ok{st:SortSt}{a nrem:Nat}{Q:AscSt->SortSt->Prop}(hO:LtOk κ kd prog w A s)(h0:KeysOf κ a₀)(hn:lo+nrem<=a₀.size)(ha:1<=a)(han:a<=nrem)(hB:SB kd a₀ b lo pd st)(hs:SIn κ (arrOf st) lo a)
  (h:∀ n,a<=n->n<=nrem->SIn κ (arrOf st) lo n->(n=nrem\/κ.klt (KK κ (arrOf st) (lo+n)) (KK κ (arrOf st) (lo+n-1)))->Q (none,n) st):wpS (model prog w) A E s (asc lo a nrem) Q st:=by
 unfold asc
 refine wpS_forRange (I:=fun x c st'=>st'=st/\c=(none,x)/\SIn κ (arrOf st) lo x) ?step ?fin ⟨rfl,rfl,hs⟩
 case fin =>
  rintro c st' ⟨rfl,rfl,g⟩
  rw[show max a nrem=nrem by lia]at g ⊢
  exact h nrem han (Nat.le_refl _) g (.inl rfl)
 case step =>
  rintro x c st' hax hxn ⟨rfl,rfl,g⟩
  dsimp only
  refine wpS_bind (ltAt_ok hO hB h0 (by lia) (by omega) ?_)
  cases q:κ.blt (KK κ (arrOf st') (lo+x)) (KK κ (arrOf st') (lo+x-1))with
  |true=>exact wpS_pure (h x hax (by lia) g (.inr q))
  |false =>
   refine wpS_pure ⟨rfl,rfl,fun i j hij hj=>?_⟩
   by_cases z:j<x
   ·exact g i j hij z
   ·have z:j=x:=by lia
    subst z
    by_cases y:i=j
    ·subst y;exact KeyOrd.kle_refl _
    ·have u:=g i (j-1) (by lia) (by lia)
     rw[show lo+(j-1)=lo+j-1 by lia]at u
     exact KeyOrd.kle_trans u q
theorem tl3_ok{st:SortSt}{n nrem:Nat}{Q:Option Nat->SortSt->Prop}(hO:LtOk κ kd prog w A s)(h0:KeysOf κ a₀)(hn:lo+nrem<=a₀.size)(h1:1<=n)(hnn:n<=nrem)(hB:SB kd a₀ b lo pd st)(hs:DIn κ (arrOf st) lo n)
  (h:∀ m st',SB kd a₀ b lo pd st'->1<=m->m<=nrem->SIn κ (arrOf st') lo m->Q (some m) st'):wpS (model prog w) A E s (tl3 lo n nrem) Q st:=by
 unfold tl3
 have hsz:lo+n<=(arrOf st).size:=by rw[hB.size];lia
 have hB':=hB.mirror (i:=lo) (j:=lo+n) (Nat.le_refl _) (by lia)
 refine wpS_bind (rev_ok (wpS_bind (asc_ok hO h0 hn h1 hnn hB' ?_ fun m p1 p2 p3 _=>wpS_pure (h m _ hB' (by lia) p2 p3))))
 intro i j hij hj
 show κ.kle (KK κ (mirror (arrOf st) lo (lo+n) ((lo+n-lo) / 2)) (lo+i)) (KK κ (mirror (arrOf st) lo (lo+n) ((lo+n-lo) / 2)) (lo+j))
 rw[KK_mirror hsz,KK_mirror hsz,if_pos (by lia),if_pos (by lia),show lo+(lo+n)-1-(lo+i)=lo+(n-1-i) by lia,show lo+(lo+n)-1-(lo+j)=lo+(n-1-j) by omega]
 exact hs _ _ (by omega) (by omega)
theorem dsc_ok{st:SortSt}{n nrem:Nat}{Q:DescSt->SortSt->Prop}(hO:LtOk κ kd prog w A s)(h0:KeysOf κ a₀)(hn:lo+nrem<=a₀.size)(h1:1<=n)(hnn:n<=nrem)(hB:SB kd a₀ b lo pd st)(hs:DIn κ (arrOf st) lo n)
  (h:∀ m q st',SB kd a₀ b lo pd st'->n<=m->m<=nrem->DIn κ (arrOf st') lo m->q+1<=m->(∀ i,m-(q+1)<=i->i<m->KK κ (arrOf st') (lo+i)=KK κ (arrOf st') (lo+m-1))->Q (none,m,q) st') :
  wpS (model prog w) A E s (dsc lo n nrem) Q st:=by
 unfold dsc
 refine wpS_forRange (I:=fun x c st'=>∃ q,c=(none,x,q)/\SB kd a₀ b lo pd st'/\DIn κ (arrOf st') lo x/\q+1<=x/\(∀ i,x-(q+1)<=i->i<x->KK κ (arrOf st') (lo+i)=KK κ (arrOf st') (lo+x-1))) ?step ?fin
  ⟨0,rfl,hB,hs,by omega,fun i h1 h2=>by rw[show lo+i=lo+n-1 by lia]⟩
 case fin =>
  rintro c st' ⟨q,rfl,g1,g2,g3,g4⟩
  rw[show max n nrem=nrem by lia]at g2 g3 g4 ⊢
  exact h nrem q st' g1 hnn (Nat.le_refl _) g2 g3 g4
 case step =>
  rintro x c st' hax hxn ⟨q,rfl,g1,g2,g3,g4⟩
  dsimp only
  have hsz:lo+x<=(arrOf st').size:=by rw[g1.size];lia
  refine wpS_bind (ltAt_ok hO g1 h0 (by lia) (by lia) ?_)
  cases t:κ.blt (KK κ (arrOf st') (lo+x)) (KK κ (arrOf st') (lo+x-1))with
  |true =>
   have step1:∀ xs:Array Keyed,(∀ k,KK κ xs k=KK κ (arrOf st') k)->DIn κ xs lo (x+1):=by
    intro xs hk i j hij hj
    rw[hk,hk]
    by_cases z:j<x
    ·exact g2 i j hij z
    ·have z:j=x:=by lia
     subst z
     by_cases y:i=j
     ·subst y;exact KeyOrd.kle_refl _
     ·have u:=g2 i (j-1) (by lia) (by lia)
      rw[show lo+(j-1)=lo+j-1 by lia]at u
      exact KeyOrd.kle_trans (KeyOrd.kle_of_klt t) u
   dsimp only
   rw[if_pos rfl]
   by_cases y:q > 0
   ·rw[if_pos y]
    have eqs:∀ k,lo+x-(q+1)<=k->k<lo+x->KK κ (arrOf st') k=KK κ (arrOf st') (lo+x-1):=fun k k1 k2=>by
     have u:=g4 (k-lo) (by omega) (by lia)
     rwa [show lo+(k-lo)=k by lia]at u
    refine wpS_bind (rev_ok (wpS_pure ⟨0,rfl,g1.mirror (by omega) (by lia),step1 _ (KK_mirror_equal hsz eqs),by lia,fun i h1 h2=>by rw[show lo+i=lo+(x+1)-1 by lia]⟩))
   ·rw[if_neg y]
    exact wpS_pure ⟨0,rfl,g1,step1 _ (fun _=>rfl),by lia,fun i h1 h2=>by rw[show lo+i=lo+(x+1)-1 by lia]⟩
  |false =>
   dsimp only
   rw[if_neg Bool.false_ne_true]
   refine wpS_bind (ltAt_ok hO g1 h0 (by lia) (by lia) ?_)
   cases u:κ.blt (KK κ (arrOf st') (lo+x-1)) (KK κ (arrOf st') (lo+x))with
   |true=>exact wpS_pure (h x q st' g1 hax (by lia) g2 g3 g4)
   |false =>
    have ex:KK κ (arrOf st') (lo+x)=KK κ (arrOf st') (lo+x-1):=KeyOrd.kle_antisymm u t
    refine wpS_pure ⟨q+1,rfl,g1,fun i j hij hj=>?_,by lia,fun i h1 h2=>?_⟩
    ·by_cases z:j<x
     ·exact g2 i j hij z
     ·have z:j=x:=by lia
      subst z
      by_cases y:i=j
      ·subst y;exact KeyOrd.kle_refl _
      ·rw[ex]
       have v:=g2 i (j-1) (by lia) (by lia)
       rwa [show lo+(j-1)=lo+j-1 by lia]at v
    ·rw[show lo+(x+1)-1=lo+x by lia]
     by_cases z:i=x
     ·subst z;rfl
     ·rw[ex];exact g4 i (by lia) (by lia)
theorem dpt_ok{st:SortSt}{n nrem:Nat}{Q:Option Nat->SortSt->Prop}(hO:LtOk κ kd prog w A s)(h0:KeysOf κ a₀)(hn:lo+nrem<=a₀.size)(hnn:n+1<=nrem)(hB:SB kd a₀ b lo pd st)(hs:DIn κ (arrOf st) lo (n+1))
  (h:∀ m st',SB kd a₀ b lo pd st'->1<=m->m<=nrem->SIn κ (arrOf st') lo m->Q (some m) st'):wpS (model prog w) A E s (dpt lo n nrem) Q st:=by
 unfold dpt
 refine wpS_bind (wpS_lift (wpAny_rule ⟨rfl,wpS_bind (dsc_ok hO h0 hn (by lia) hnn hB hs fun m q st' g1 m1 m2 g2 g3 g4=>?_)⟩))
 dsimp only
 have hsz:lo+m<=(arrOf st').size:=by rw[g1.size];lia
 by_cases y:q > 0
 ·rw[if_pos y]
  have eqs:∀ k,lo+m-(q+1)<=k->k<lo+m->KK κ (arrOf st') k=KK κ (arrOf st') (lo+m-1):=fun k k1 k2=>by
   have u:=g4 (k-lo) (by omega) (by lia)
   rwa [show lo+(k-lo)=k by lia]at u
  refine wpS_bind (rev_ok (tl3_ok hO h0 hn (by lia) m2 (g1.mirror (by omega) (by lia)) (fun i j hij hj=>?_) h))
  show κ.kle (KK κ (mirror (arrOf st') _ _ _) (lo+j)) (KK κ (mirror (arrOf st') _ _ _) (lo+i))
  rw[KK_mirror_equal hsz eqs,KK_mirror_equal hsz eqs]
  exact g2 i j hij hj
 ·rw[if_neg y]
  exact tl3_ok hO h0 hn (by lia) m2 g1 g2 h
theorem count_ok{st:SortSt}{nrem:Nat}{Q:Option Nat->SortSt->Prop}(hO:LtOk κ kd prog w A s)(h0:KeysOf κ a₀)(hn:lo+nrem<=a₀.size)(h1:1<=nrem)(hB:SB kd a₀ b lo pd st)
  (h:∀ m st',SB kd a₀ b lo pd st'->1<=m->m<=nrem->SIn κ (arrOf st') lo m->Q (some m) st'):wpS (model prog w) A E s (countRun' lo nrem) Q st:=by
 rw[count_eq]
 refine wpS_bind (asc_ok hO h0 hn (Nat.le_refl 1) h1 hB (fun i j hij hj=>by rw[show i=j by lia];exact KeyOrd.kle_refl _) fun n n1 n2 g1 g2=>?_)
 dsimp only
 by_cases z:n=nrem
 ·rw[if_pos (by simpa using z)]
  exact wpS_pure (h n st hB n1 n2 g1)
 ·rw[if_neg (by simpa using z)]
  have t:=g2.resolve_left z
  by_cases y:n > 1
  ·rw[if_pos y]
   refine wpS_bind (ltAt_ok hO hB h0 (by lia) (by omega) ?_)
   cases u:κ.blt (KK κ (arrOf st) lo) (KK κ (arrOf st) (lo+n-1))with
   |true=>exact wpS_pure (h n st hB n1 n2 g1)
   |false =>
    have hsz:lo+n<=(arrOf st).size:=by rw[hB.size];lia
    have eqs:∀ k,lo<=k->k<lo+n->KK κ (arrOf st) k=KK κ (arrOf st) (lo+n-1):=fun k k1 k2=>by
     have a1:=g1 0 (k-lo) (by lia) (by omega)
     have a2:=g1 (k-lo) (n-1) (by lia) (by omega)
     rw[show lo+(k-lo)=k by lia]at a1 a2
     rw[show lo+(n-1)=lo+n-1 by lia]at a2
     exact KeyOrd.kle_antisymm a2 (KeyOrd.kle_trans u a1)
    dsimp only
    rw[if_neg Bool.false_ne_true]
    refine wpS_bind (rev_ok (dpt_ok hO h0 hn (by lia) (hB.mirror (Nat.le_refl _) (by lia)) (fun i j hij hj=>?_) h))
    show κ.kle (KK κ (mirror (arrOf st) _ _ _) (lo+j)) (KK κ (mirror (arrOf st) _ _ _) (lo+i))
    rw[KK_mirror_equal hsz eqs,KK_mirror_equal hsz eqs]
    by_cases v:j<n
    ·rw[eqs (lo+i) (by lia) (by lia),eqs (lo+j) (by lia) (by lia)];exact KeyOrd.kle_refl _
    ·have v:j=n:=by lia
     subst v
     by_cases v:i=j
     ·subst v;exact KeyOrd.kle_refl _
     ·rw[eqs (lo+i) (by lia) (by lia)];exact KeyOrd.kle_of_klt t
  ·rw[if_neg y]
   have z:n=1:=by lia
   subst z
   refine dpt_ok hO h0 hn (by lia) hB (fun i j hij hj=>?_) h
   by_cases v:i=j
   ·subst v;exact KeyOrd.kle_refl _
   ·have e1:i=0:=by lia
    have e2:j=1:=by lia
    subst e1 e2
    exact KeyOrd.kle_of_klt t
theorem bin_ok{st:SortSt}{n ok:Nat}{Q:Bool->SortSt->Prop}(hO:LtOk κ kd prog w A s)(h0:KeysOf κ a₀)(hn:lo+n<=a₀.size)(hok:ok<=n)(hB:SB kd a₀ b lo pd st)(hs:SIn κ (arrOf st) lo ok)
  (h:∀ st',SB kd a₀ b lo pd st'->SIn κ (arrOf st') lo n->Q true st'):wpS (model prog w) A E s (binarySort' lo n ok) Q st:=by
 rw[binarySort'_eq]
 refine wpS_bind (wpS_mono (wpS_forRange (I:=fun k c st'=>c=(none,())/\SB kd a₀ b lo pd st'/\SIn κ (arrOf st') lo (min k n)) (Q:=fun c st'=>c=(none,())/\SB kd a₀ b lo pd st'/\SIn κ (arrOf st') lo n) ?step ?fin ?init) ?post)
 case post =>
  rintro c st' ⟨rfl,g1,g2⟩
  exact wpS_pure (h st' g1 g2)
 case init =>
  refine⟨rfl,hB,fun i j hij hj=>?_⟩
  by_cases h1:ok=0
  ·rw[show i=j by lia];exact KeyOrd.kle_refl _
  ·exact hs i j hij (by lia)
 case fin =>
  rintro c st' ⟨g0,g1,g2⟩
  refine⟨g0,g1,?_⟩
  rwa [show min (max (max ok 1) n) n=n by lia]at g2
 case step =>
  rintro k c st' hak hkn ⟨rfl,g1,g2⟩
  rw[show min k n=k by lia]at g2
  have hk:lo+k<a₀.size:=by lia
  refine wpS_bind (wpS_mono (wpS_forRange (I:=fun x c st''=>st''=st'/\∃ l r,c=(none,l,r)/\l<=r/\r<=k/\r-l<=k-x/\(∀ i,i<l->κ.kle (KK κ (arrOf st') (lo+i)) (KK κ (arrOf st') (lo+k))) /\
     (∀ i,r<=i->i<k->κ.klt (KK κ (arrOf st') (lo+k)) (KK κ (arrOf st') (lo+i))))
   (Q:=fun c st''=>st''=st'/\∃ l r,c=(none,l,r)/\l<=k/\(∀ i,i<l->κ.kle (KK κ (arrOf st') (lo+i)) (KK κ (arrOf st') (lo+k)))/\(∀ i,l<=i->i<k->κ.klt (KK κ (arrOf st') (lo+k)) (KK κ (arrOf st') (lo+i)))) ?istep ?ifin ?iinit) ?ipost)
  case iinit=>exact⟨rfl,0,k,rfl,by lia,by lia,by lia,fun i hi=>by lia,fun i h1 h2=>by lia⟩
  case ifin =>
   rintro c st'' ⟨rfl,l,r,rfl,i1,i2,i3,i4,i5⟩
   have z:l=r:=by lia
   subst z
   exact⟨rfl,l,l,rfl,i2,i4,i5⟩
  case istep =>
   rintro x c st'' _ hxk ⟨rfl,l,r,rfl,i1,i2,i3,i4,i5⟩
   dsimp only
   by_cases y:l >= r
   ·rw[if_pos y]
    have z:l=r:=by lia
    subst z
    exact wpS_pure ⟨rfl,l,l,rfl,i2,i4,i5⟩
   ·rw[if_neg y]
    refine wpS_bind (ltAt_ok hO g1 h0 hk (by lia) ?_)
    cases t:κ.blt (KK κ (arrOf st'') (lo+k)) (KK κ (arrOf st'') (lo+(l+r) / 2))with
    |true =>
     refine wpS_pure ⟨rfl,l,(l+r) / 2,rfl,by lia,by lia,by omega,i4,fun i h1 h2=>?_⟩
     exact KeyOrd.klt_of_klt_of_kle t (g2 _ _ h1 h2)
    |false =>
     refine wpS_pure ⟨rfl,(l+r) / 2+1,r,rfl,by lia,by omega,by omega,fun i h1=>?_,i5⟩
     exact KeyOrd.kle_trans (g2 i ((l+r) / 2) (by lia) (by lia)) (show κ.kle _ _ from t)
  case ipost =>
   rintro c st'' ⟨rfl,l,r,rfl,i2,i4,i5⟩
   show wpS _ _ _ _ (do moveDown' (lo+k) (lo+l);pure (ForInStep.yield (none,()))) _ _
   rw[moveDown'_eq]
   have hks:lo+k <(arrOf st'').size:=by rw[g1.size];exact hk
   refine wpS_bind (wpS_modify (wpS_pure ⟨rfl,g1.arr (bubble_perm _ _ _) fun m hm=>?_,?_⟩))
   ·rw[getElem?_bubble hks _ (by omega),if_neg (by omega),if_neg (by omega)]
   rw[show min (k+1) n=k+1 by lia]
   intro i j hij hj
   show κ.kle (KK κ (bubble (arrOf st'') (lo+k) (lo+k-(lo+l))) (lo+i)) (KK κ (bubble (arrOf st'') (lo+k) (lo+k-(lo+l))) (lo+j))
   rw[KK_bubble hks (by omega),KK_bubble hks (by omega),show lo+k-(lo+k-(lo+l))=lo+l by lia]
   have sh:∀ m,lo+l<lo+m->lo+m-1=lo+(m-1):=fun m hm=>by lia
   repeat' split
   all_goals first
    |(exfalso;lia)
    |exact KeyOrd.kle_refl _
    |exact i4 _ (by lia)
    |(rw[sh _ (by lia)];exact KeyOrd.kle_of_klt (i5 _ (by lia) (by lia)))
    |exact KeyOrd.kle_of_klt (i5 _ (by omega) (by omega))
    |exact g2 _ _ (by omega) (by lia)
    |(rw[sh _ (by lia),sh _ (by lia)];exact g2 _ _ (by omega) (by lia))
    |(rw[sh _ (by lia)];exact g2 _ _ (by lia) (by omega))
end
open PySem PyProof.Rows
section
variable{prog:Program}{w:World}{A:Around}{E:Value->Shared->Prop}{s:Shared}{κ:KeyKind}{kd:SortKind}{st:SortSt}{a₀:Array Keyed}
theorem wpS_ifZ{M:Model}{A:Around}{E:Value->Shared->Prop}{s:Shared}{σ α:Type}{c:Prop}[Decidable c]{x y:StateT σ Sem α}{Q:α->σ->Prop}{t:σ}(h1:c->wpS M A E s x Q t)(h2:¬ c->wpS M A E s y Q t):wpS M A E s (if c then x else y) Q t:=by
 by_cases h:c
 ·rw[if_pos h];exact h1 h
 ·rw[if_neg h];exact h2 h
structure CoreZ(κ:KeyKind)(kd:SortKind)(a₀:Array Keyed)(lo:Nat)(st:SortSt):Prop where
 perm:(arrOf st).Perm a₀
 kind:kindOf st=kd
 failed:failedOf st=none
 one:(lo=0/\pendingOf st = #[])\/(lo=a₀.size/\SIn κ (arrOf st) 0 a₀.size/\(pendingOf st).size<=1)
theorem runs_okZ{Q:Unit->SortSt->Prop}(hO:LtOk κ kd prog w A s)(h0:KeysOf κ a₀)(hB:SB kd a₀ a₀ 0 #[] st)(h2:2<=a₀.size)(h64:a₀.size<64)
  (h:∀ st',(arrOf st').Perm a₀->failedOf st'=none->SIn κ (arrOf st') 0 a₀.size->Q () st'):wpS (model prog w) A E s sortRuns' Q st:=by
 rw[sortRuns'_eq]
 refine wpS_bind (wpS_get ?_)
 dsimp only
 simp only[hB.size]
 have hmr:minRun' a₀.size a₀.size 0=a₀.size:=by
  obtain⟨k,e⟩:∃ k,a₀.size=k+1:=⟨a₀.size-1,by lia⟩
  rw[e,minRun'_succ,if_pos (by lia)]
 rw[hmr]
 refine wpS_bind (wpS_mono (wpS_forRange
  (I:=fun x c st'=>∃ lo,c=(none,lo)/\x<=lo/\CoreZ κ kd a₀ lo st')
  (Q:=fun c st'=>c=(none,a₀.size)/\CoreZ κ kd a₀ a₀.size st') ?step ?fin ⟨0,rfl,Nat.le_refl _,hB.perm,hB.kind,hB.failed,.inl ⟨rfl,hB.pend⟩⟩) ?post)
 case fin =>
  rintro c st' ⟨lo,rfl,hx,C⟩
  have e:lo=a₀.size:=by have:=C.one;lia
  subst e
  exact⟨rfl,C⟩
 case step =>
  rintro x c st1 _ hx ⟨lo,rfl,xlo,C⟩
  dsimp only
  by_cases hlo:lo >= a₀.size
  ·rw[if_pos hlo]
   have e:lo=a₀.size:=by have:=C.one;lia
   subst e
   exact wpS_pure ⟨rfl,C⟩
  rw[if_neg hlo]
  obtain⟨rfl,pd⟩:lo=0/\pendingOf st1 = #[]:=C.one.resolve_right fun z=>hlo (Nat.le_of_eq z.1.symm)
  refine wpS_bind (count_ok hO h0 (b:=arrOf st1) (pd:=pendingOf st1) (by lia) (by lia) ⟨C.perm,C.kind,C.failed,rfl,fun _ _=>rfl⟩ fun m st2 B2 m1 m2 S2=>?_)
  dsimp only
  have last:∀ (st':SortSt) (n:Nat),SB kd a₀ (arrOf st1) 0 (pendingOf st1) st'->SIn κ (arrOf st') 0 n->n=a₀.size->∀ z,CoreZ κ kd a₀ (0+n) (setPending st' ((pendingOf st').push (0,n,z))):=fun st' n B S e z=>by
   subst e
   refine⟨B.perm,B.kind,B.failed,.inr ⟨Nat.zero_add _,S,?_⟩⟩
   show((pendingOf st').push (0,a₀.size,z)).size<=1
   rw[B.pend,pd]
   exact Nat.le_refl 1
  by_cases hlt:m<a₀.size
  ·rw[if_pos hlt]
   refine wpS_bind (wpS_lift (wpAny_rule ⟨rfl,wpS_bind (bin_ok hO h0 (by lia) (by lia) B2 S2 fun st3 B3 S3=>?_)⟩))
   refine wpS_ifZ (fun z=>absurd z (by simp)) fun _=>?_
   have g0:min (a₀.size-0) a₀.size=a₀.size:=by lia
   rw[g0]at S3 ⊢
   refine wpS_bind (wpS_get ?_)
   rw[show(pendingOf st3).back?=none by rw[B3.pend,pd];rfl]
   dsimp only
   refine wpS_bind (wpS_modify (wpS_pure ?_))
   exact⟨0+a₀.size,rfl,by lia,last st3 _ B3 S3 rfl _⟩
  ·rw[if_neg hlt]
   refine wpS_bind (wpS_get ?_)
   rw[show(pendingOf st2).back?=none by rw[B2.pend,pd];rfl]
   dsimp only
   refine wpS_bind (wpS_modify (wpS_pure ?_))
   exact⟨0+m,rfl,by lia,last st2 _ B2 S2 (by lia) _⟩
 case post =>
  rintro c st1 ⟨rfl,C⟩
  dsimp only
  obtain⟨_,S,ps⟩:a₀.size=a₀.size/\SIn κ (arrOf st1) 0 a₀.size/\(pendingOf st1).size<=1:=C.one.resolve_left fun z=>by have:=z.1;lia
  refine wpS_bind (wpS_mono (wpS_forRange (I:=fun x c st'=>c=(none,())/\st'=st1) (Q:=fun c st'=>c=(none,())/\st'=st1) ?lstep ?lfin ⟨rfl,rfl⟩) ?lpost)
  case lfin=>exact fun c st' z=>z
  case lpost =>
   rintro c st' ⟨rfl,rfl⟩
   exact wpS_pure (h _ C.perm C.failed S)
  case lstep =>
   rintro x c st2 _ hx ⟨rfl,rfl⟩
   refine wpS_bind (wpS_get ?_)
   rw[if_pos ps]
   exact wpS_pure ⟨rfl,rfl⟩
end
open PySem PySem.W PyProof.Rows
noncomputable def RawD(d:Addr)(ks:List Value)(ep:Nat)(g:Heap):Prop:=∃ ob en,g.get? d=some ob/\ob.ExactDict/\ob.data = .dict en ep/\en.toList.map (fun r=>r.key)=ks
section
variable{d it:Addr}{ks:List Value}{ep i:Nat}{g g':Heap}{prog:Program}{w:World}{A:Around}{E:Value->Shared->Prop}{s:Shared}
theorem RawD.to(x:RawD d ks ep g)(k:∀ u,g.get? d=some u->g'.get? d=some u):RawD d ks ep g':=by
 obtain⟨ob,en,a,r⟩:=x
 exact⟨ob,en,k _ a,r⟩
theorem RawD.ty(x:RawD d ks ep s.heap):s.TypeIs (.ref d) "dict":=by
 obtain⟨ob,en,a,c,r⟩:=x
 exact⟨ob,a,c.1⟩
theorem RawD.lt(x:RawD d ks ep g):d<g.objs.size:=by
 obtain⟨ob,en,a,c,r⟩:=x
 exact Heap.lt_size a
theorem rawIter{Q:Value->Shared->Prop}(nd:(d == sysModules)=false)(x:RawD d ks ep s.heap)
  (q:Q (.ref s.heap.objs.size) { s with heap:=s.heap.push { cls:=.type "dict_keyiterator",data:=.fields #[.ref d,.int 0 0,.int ks.length 0,.int ep 0] } }) :
  wpAny (model prog w) A (pyIter (.ref d)) Q E s:=by
 have ty:=x.ty
 obtain⟨ob,en,a,c,dt,ke⟩:=x
 have len:en.size=ks.length:=by rw[<- ke];simp
 refine wpAny_pyIter_slot ty F.slot_dict_iter (wpAny_call_entry F.slot_dict_iter ty F.entry_dict_iter ?_ (F.args_dict_iter_1 _))
 unfold Builtin.«dict.__iter__»;refine wpAny_bind ?_
 unfold Builtin.Dict.dictSlotNone;refine wpAny_bind (wpAny_notOrdered_dict ty ?_)
 show wpAny _ _ (pure (Value.ref d)) _ _ s;refine wpAny_pure ?_
 show wpAny _ _ (Builtin.Dict.showsAll d >>= _) _ _ s;unfold Builtin.Dict.showsAll
 rw[if_neg (fun e=>Bool.false_ne_true (nd.symm.trans e))];refine wpAny_bind (wpAny_pure (wpAny_bind (wpAny_dictEntries a dt (wpAny_bind (wpAny_dictEpoch a dt ?_)))))
 refine wpAny_bind (wpAny_newObj_type (wpAny_pure ⟨_,rfl,"dict_keyiterator",_,⟨_,Heap.get?_push_size _ rfl,rfl⟩,F.slot_dict_keyiterator_next.lookup,?_⟩));simpa[rawInt,len]using q
theorem rawItem{v:Value}{Q:Option Value->Shared->Prop}(hI:s.heap.IsKeyIter it d i ks.length ep)(x:RawD d ks ep s.heap)(hv:ks[i]?=some v)
  (q:∀ g',g'.IsKeyIter it d (i+1) ks.length ep->Heap.SameBut it s.heap g'->Q (some v) { s with heap:=g' }):wpAny (model prog w) A (pyNext (.ref it)) Q E s:=by
 obtain⟨io,a0,c0,d0⟩:=id hI
 obtain⟨ob,en,a,c,dt,ke⟩:=x
 have len:en.size=ks.length:=by rw[<- ke];simp
 unfold pyNext;refine wpAny_bind (wpAny_attempt (wpAny_callSpecial?_slot (name:=Str.ofString "__next__") hI.typeIs F.slot_dict_keyiterator_next (wpAny_call_entry F.slot_dict_keyiterator_next hI.typeIs F.entry_dict_keyiterator_next ?_ (F.args_dict_keyiterator_next_1 _))))
 refine wpAny_bind (wpAny_pure (wpAny_bind (wpAny_bind ?_)))
 first | refine wpAny_bind (wpAny_typeNameOfWhole_keyiter hI.typeIs (wpAny_pure ?_)) | refine wpAny_bind (wpAny_typeNameOf_keyiter hI.typeIs (wpAny_pure ?_))
 refine wpAny_bind (wpAny_fieldsOf a0 d0 ?_);have own:Builtin.Dict_items.ownsTuple "dict_keyiterator" = false:=by decide
 simp only[own,Bool.false_eq_true,if_false];show wpAny _ _ (if(Value.ref d == Value.none)=true then _ else _) _ _ s
 rw[if_neg (show ¬((Value.ref d == Value.none)=true)from Bool.false_ne_true)];refine wpAny_bind (wpAny_pure (wpAny_bind (wpAny_dictEntries a dt ?_)))
 rw[if_neg (by rw[len];simp)];refine wpAny_bind (wpAny_pure (wpAny_bind (wpAny_dictEpoch a dt ?_)))
 rw[if_neg (by simp)];refine wpAny_pure ?_
 have il:i<en.size:=by rw[len];exact(List.getElem?_eq_some_iff.mp hv).1
 have iv:en[i].key=v:=by
  have z:(en.toList.map (fun r=>r.key))[i]?=some en[i].key:=by rw[List.getElem?_map,Array.getElem?_toList,Array.getElem?_eq_getElem il];rfl
  rw[ke,hv]at z
  exact(Option.some.inj z).symm
 simp only[show ¬((i:Int)<0)from by lia,if_false,Int.toNat_natCast,Array.getElem?_eq_getElem il];refine wpAny_bind ?_
 first | refine wpAny_bind (wpAny_typeNameOfWhole_keyiter hI.typeIs (wpAny_pure ?_)) | refine wpAny_bind (wpAny_typeNameOf_keyiter hI.typeIs (wpAny_pure ?_))
 refine wpAny_bind (wpAny_isOneOf_keyiter hI.typeIs ?_);show wpAny _ _ (setField (.ref it) 1 (rawInt ((i:Int)+1)) >>= _) _ _ s
 refine wpAny_bind (wpAny_setField a0 d0 (by simp) ?_)
 have hI':(s.heap.update it (Obj.mapFields (·.setIfInBounds 1 (rawInt ((i:Int)+1))))).IsKeyIter it d (i+1) ks.length ep:=⟨_,Heap.get?_update_self _ a0 (Obj.isFreed_of_fields (Obj.data_mapFields d0 _)),(Obj.cls_mapFields ..).trans c0,by rw[Obj.data_mapFields d0];simp[rawInt]⟩
 refine wpAny_bind (wpAny_holding (wpAny_bind (wpAny_isOneOf_keyiter (s:={ s with heap:=s.heap.update it (Obj.mapFields (·.setIfInBounds 1 (rawInt ((i:Int)+1)))) }) hI'.typeIs ?_)))
 show wpAny _ _ (pure en[i].key) _ _ _;rw[iv]
 exact wpAny_pure (wpAny_pure ⟨_,rfl,wpAny_pure (q _ hI' (Heap.SameBut.update ..))⟩)
theorem rawEnd{Q:Option Value->Shared->Prop}(hh:A.handled=none)(hI:s.heap.IsKeyIter it d i ks.length ep)(x:RawD d ks ep s.heap)(hv:ks.length<=i)
  (q:∀ g',Heap.ExtBut it s.heap g'->Q none { s with heap:=g' }):wpAny (model prog w) A (pyNext (.ref it)) Q E s:=by
 obtain⟨io,a0,c0,d0⟩:=id hI
 obtain⟨ob,en,a,c,dt,ke⟩:=x
 have len:en.size=ks.length:=by rw[<- ke];simp
 unfold pyNext;refine wpAny_bind (wpAny_attempt (wpAny_callSpecial?_slot (name:=Str.ofString "__next__") hI.typeIs F.slot_dict_keyiterator_next (wpAny_call_entry F.slot_dict_keyiterator_next hI.typeIs F.entry_dict_keyiterator_next ?_ (F.args_dict_keyiterator_next_1 _))))
 refine wpAny_bind (wpAny_pure (wpAny_bind (wpAny_bind ?_)))
 first | refine wpAny_bind (wpAny_typeNameOfWhole_keyiter hI.typeIs (wpAny_pure ?_)) | refine wpAny_bind (wpAny_typeNameOf_keyiter hI.typeIs (wpAny_pure ?_))
 refine wpAny_bind (wpAny_fieldsOf a0 d0 ?_);have own:Builtin.Dict_items.ownsTuple "dict_keyiterator" = false:=by decide
 simp only[own,Bool.false_eq_true,if_false];show wpAny _ _ (if(Value.ref d == Value.none)=true then _ else _) _ _ s
 rw[if_neg (show ¬((Value.ref d == Value.none)=true)from Bool.false_ne_true)];refine wpAny_bind (wpAny_pure (wpAny_bind (wpAny_dictEntries a dt ?_)))
 rw[if_neg (by rw[len];simp)];refine wpAny_bind (wpAny_pure (wpAny_bind (wpAny_dictEpoch a dt ?_)))
 rw[if_neg (by simp)];refine wpAny_pure ?_
 have il:en.size<=i:=by rw[len];exact hv
 simp only[show ¬((i:Int)<0)from by lia,if_false,Int.toNat_natCast,Array.getElem?_eq_none il];refine wpAny_bind ?_
 first | refine wpAny_bind (wpAny_typeNameOfWhole_keyiter hI.typeIs (wpAny_pure ?_)) | refine wpAny_bind (wpAny_typeNameOf_keyiter hI.typeIs (wpAny_pure ?_))
 show wpAny _ _ (setField (.ref it) 0 .none >>= _) _ _ s;refine wpAny_bind (wpAny_setField a0 d0 (by simp) ?_)
 show wpAny _ _ (newExc (.type "StopIteration") [] >>= _) _ _ _;refine wpAny_bind ?_
 simp only[newExc,newTuple];refine wpAny_bind (wpAny_newObj_type ?_ (by size_fits))
 refine wpAny_bind (m:=firstArgMember _ _) (wpAny_of_eq (a:=Value.none) (by first | rfl |(simp only[firstArgMember];rfl)) (wpAny_newObj_type ?_ (by size_fits)))
 simp only[raiseNew];refine wpAny_bind (wpAny_handled ?_)
 rw[show A.in1.handled=none from hh];refine wpAny_bind (wpAny_pure (wpAny_throw ?_))
 refine wpAny_bind (wpAny_isInstance (T:="StopIteration") (b:=true) ⟨_,Heap.get?_push_size _ rfl,rfl⟩ isSubtype_stop ?_)
 exact wpAny_pure (q _ (((Heap.SameBut.update ..).extBut.push _).push _))
theorem rawWalks(hh:A.handled=none)(I d:Addr)(ne:d≠I)(ks:List Value)(ep:Nat) :
  Walks prog w A I [I,d] [I] ks.length (fun i v=>ks[i]?=some v) (fun i g=>g.IsKeyIter I d i ks.length ep/\RawD d ks ep g)where
 sub:=fun b z=>by simp at z;simp[z]
 frame:=fun _ _ _ st k=>⟨st.1.at fun o e=>k I (by simp) o e,st.2.to fun o e=>k d (by simp) o e⟩
 item:=fun i s Q E hi st hQ=>by
  obtain⟨v,hx⟩:∃ p,ks[i]?=some p:=⟨ks[i],by simp[hi]⟩
  refine rawItem st.1 st.2 hx fun g' it' sb=>?_
  exact hQ v g' s.toks hx ⟨it',st.2.to fun o e=>sb.extBut d o ne e⟩ fun b o z e=>sb.extBut b o (fun h=>z (by simp[h])) e
 done:=fun s Q E st hQ=>rawEnd hh st.1 st.2 (Nat.le_refl _) fun g' e'=>hQ g' s.toks fun b o z e=>e' b o (fun h=>z (by simp[h])) e
 self:=fun _ _ _ _ st hQ=>wpAny_pyIter_keyiter st.1 hQ
theorem rawSrc(nd:(d == sysModules)=false):KdlSrc prog w "dict" d d ks.length (fun i v=>ks[i]?=some v) (RawD d ks ep)where
 type:=fun _ x=>x.ty
 there:=fun _ x=>⟨x.lt,x.lt⟩
 keep:=fun _ _ x k=>x.to fun o e=>k d (.inl rfl) o e
 notList:=by decide
 notTuple:=by decide
 hint:=fun _ _ _ _ x q=>kdl_hint_dict x.ty q
 iter:=fun _ _ hh x=>⟨_,_,(fun _ _ q=>rawIter nd x q),rawWalks hh _ d (Nat.ne_of_lt x.lt) ks ep,⟨⟨_,Heap.get?_push_size _ rfl,rfl,rfl⟩,x.to fun o e=>Heap.get?_push_of_some _ e⟩⟩
end
open PySem PySem.W PyProof.Rows
noncomputable def lexlt:List Int->List Int->Bool
 | _,[]=>false
 |[],_ :: _=>true
 |a :: x,b :: y=>decide (a<b) ||(decide (a=b) && lexlt x y)
theorem lexlt_irrefl:∀ x,lexlt x x=false
 |[]=>rfl
 |a :: x=>by simp[lexlt,lexlt_irrefl x]
theorem lexlt_trans:∀ x y z,lexlt x y=true->lexlt y z=true->lexlt x z=true
 | _,_,[],_,h=>by simp[lexlt]at h
 | _,[],_ :: _,h,_=>by simp[lexlt]at h
 |[],_ :: _,_ :: _,_,_=>rfl
 |a :: x,b :: y,c :: z,h,k=>by
  simp only[lexlt,Bool.or_eq_true,Bool.and_eq_true,decide_eq_true_eq]at h k ⊢
  rcases h with h |⟨h,h'⟩ <;> rcases k with k |⟨k,k'⟩
  ·left;lia
  ·left;lia
  ·left;lia
  ·right;exact⟨by lia,lexlt_trans x y z h' k'⟩
theorem lexlt_neg:∀ x y z,lexlt x z=true->lexlt x y=true\/lexlt y z=true
 | _,_,[],h=>by simp[lexlt]at h
 | _,[],_ :: _,_=>.inr rfl
 |[],_ :: _,_ :: _,_=>.inl rfl
 |a :: x,b :: y,c :: z,h=>by
  simp only[lexlt,Bool.or_eq_true,Bool.and_eq_true,decide_eq_true_eq]at h ⊢
  rcases h with h |⟨h,h'⟩
  ·by_cases e:a<b
   ·exact .inl (.inl e)
   ·exact .inr (.inl (by lia))
  ·rcases lexlt_neg x y z h' with q | q
   ·by_cases e:a<b
    ·exact .inl (.inl e)
    ·by_cases e':a=b
     ·exact .inl (.inr ⟨e',q⟩)
     ·exact .inr (.inl (by lia))
   ·by_cases e:a<b
    ·exact .inl (.inl e)
    ·by_cases e':b=c
     ·exact .inr (.inr ⟨e',q⟩)
     ·exact .inr (.inl (by lia))
theorem lexlt_total:∀ x y,lexlt x y=false->lexlt y x=false->x=y
 |[],[],_,_=>rfl
 |[],_ :: _,h,_=>by simp[lexlt]at h
 | _ :: _,[],_,h=>by simp[lexlt]at h
 |a :: x,b :: y,h,k=>by
  simp only[lexlt,Bool.or_eq_false_iff,Bool.and_eq_false_iff,decide_eq_false_iff_not]at h k
  have e:a=b:=by lia
  subst e
  rw[lexlt_total x y (by simpa using h.2) (by simpa using k.2)]
noncomputable abbrev IntsV(ns:List Int)(us:List Value):Prop:=Paired (fun(i:Int) (u:Value)=>∃ t,u=Value.int i t) ns us
theorem IntsV.inj:∀ {ns ms:List Int}{us:List Value},IntsV ns us->IntsV ms us->ns=ms:=by
 intro ns ms us h
 induction h generalizing ms with
 |nil=>intro h';cases h';rfl
 |cons h r ih =>
  intro h'
  cases h' with
  |cons h2 r' =>
   obtain⟨t,e⟩:=h
   obtain⟨t',e'⟩:=h2
   rw[e]at e'
   cases e'
   rw[ih r']
noncomputable def TupI(g:Heap)(v:Value)(ns:List Int):Prop:=∃ a ob its n,v=Value.ref a/\g.get? a=some ob/\ob.cls = .type "tuple"/\ob.data = .seq its n/\IntsV ns its.toList
theorem TupI.inj{g:Heap}{v:Value}{ns ms:List Int}(x:TupI g v ns)(y:TupI g v ms):ns=ms:=by
 obtain⟨a,ob,its,n,rfl,e,_,d,p⟩:=x
 obtain⟨a',ob',its',n',e',q,_,d',p'⟩:=y
 cases e'
 rw[e]at q
 cases q
 rw[d]at d'
 cases d'
 exact p.inj p'
theorem TupI.to{g g':Heap}{v:Value}{ns:List Int}(x:TupI g v ns)(k:∀ b u,v = .ref b->g.get? b=some u->g'.get? b=some u):TupI g' v ns:=by
 obtain⟨a,ob,its,n,rfl,e,r⟩:=x
 exact⟨a,ob,its,n,rfl,k a ob rfl e,r⟩
open Classical in
noncomputable def κT(g:Heap):KeyKind where
 α:=List Int
 blt:=lexlt
 irrefl:=lexlt_irrefl
 trans:=lexlt_trans
 negTrans:=lexlt_neg
 total:=lexlt_total
 keyOf v:=if h:∃ ns,TupI g v ns then some h.choose else none
 dflt:=[]
open Classical in
theorem κT_key{g:Heap}{v:Value}{ns:List Int}(x:TupI g v ns):(κT g).keyOf v=some ns:=by
 have h:∃ ns,TupI g v ns:=⟨ns,x⟩
 show(if h:∃ ns,TupI g v ns then some h.choose else none)=some ns
 rw[dif_pos h,h.choose_spec.inj x]
open Classical in
theorem κT_of{g:Heap}{v:Value}{ns:List Int}(e:(κT g).keyOf v=some ns):TupI g v ns:=by
 have e':(if h:∃ ns,TupI g v ns then some h.choose else none)=some ns:=e
 by_cases h:∃ ns,TupI g v ns
 ·rw[dif_pos h]at e'
  rw[<- Option.some.inj e']
  exact h.choose_spec
 ·rw[dif_neg h]at e'
  cases e'
section
variable{prog:Program}{w:World}{A:Around}{E:Value->Shared->Prop}{s:Shared}
theorem lex_ok{b fin:Bool}{Q:Bool->Shared->Prop}:∀ {ns ms:List Int}{us vs:List Value} (i:Nat),IntsV ns us->IntsV ms vs->fin=decide (ns.length<ms.length)->Q (lexlt ns ms) s->KatLex prog w A b fin Q (us.zip vs) i s:=by
 intro ns ms us vs i h
 induction h generalizing ms vs i with
 |nil =>
  intro h' e q
  rw[e]
  cases h' with
  |nil=>exact kat_nil q
  |cons _ _=>exact kat_nil (show Q (decide (0<_+1)) s by simpa[lexlt]using q)
 | @cons n u ns us h r ih =>
  intro h' e q
  cases h' with
  |nil=>rw[e];exact kat_nil (by simpa[lexlt]using q)
  | @cons m v ms vs h2 r' =>
   obtain⟨t,e1⟩:=h
   obtain⟨t',e2⟩:=h2
   subst e1 e2
   refine kat_cons (wpAny_eqBool_int (kat_go (fun z=>kat_yes ?_) fun z=>kat_no ?_))
   ·have z':n=m:=by simpa using z
    refine ih (i+1) r' (by rw[e];simp) ?_
    have l:lexlt (n :: ns) (m :: ms)=lexlt ns ms:=by simp[lexlt,z']
    rw[<- l]
    exact q
   ·have z':n≠m:=by simpa using z
    have l:lexlt (n :: ns) (m :: ms)=decide (n<m):=by simp[lexlt,z']
    rw[l]at q
    cases hb:(b && i == 0)with
    |true=>exact oneLt_int q
    |false=>exact kat_one _ _ (lt_int q)
theorem ltT_ok{h₁:Heap}{b:Bool}(kp:∀ v ns,TupI h₁ v ns->TupI s.heap v ns):LtOk (κT h₁) (tuples' b) prog w A s:=by
 intro E x y ka kb Q st hk ha hb q
 obtain⟨a,ob,its,n,e1,g1,_,d1,p1⟩:=kp _ _ (κT_of ha)
 obtain⟨a',ob',its',n',e2,g2,_,d2,p2⟩:=kp _ _ (κT_of hb)
 rw[lt'_eq]
 refine wpS_bind (wpS_get ?_)
 rw[hk,e1,e2]
 have l1:ka.length=its.size:=by rw[p1.length];simp
 have l2:kb.length=its'.size:=by rw[p2.length];simp
 refine wpS_bind (wpS_lift (wpAny_attempt (kat_lt g1 d1 g2 d2 (lex_ok (ns:=ka) (ms:=kb) 0 p1 p2 (by rw[l1,l2]) ⟨rfl,?_⟩))))
 exact wpS_pure q
theorem map2_pairs:∀ {l:List Keyed},(∀ p∈l,p.1=p.2)->(l.map (·.2)).zip (l.map (·.2))=l
 |[],_=>rfl
 |p :: l,h=>by
  have e:p.1=p.2:=h p (List.mem_cons_self ..)
  show(p.2,p.2) :: (l.map (·.2)).zip (l.map (·.2))=_
  rw[map2_pairs fun q hq=>h q (List.mem_cons_of_mem _ hq)]
  congr 1
  exact Prod.ext e.symm rfl
theorem mem_zip_self:∀ {l:List Value}{p:Keyed},p∈l.zip l->p.1=p.2/\p.2∈l
 |[],p,h=>by simp at h
 |v :: l,p,h=>by
  rcases List.mem_cons.mp (show p∈(v,v) :: l.zip l from h)with e | e
  ·rw[e];exact⟨rfl,List.mem_cons_self ..⟩
  ·exact⟨(mem_zip_self e).1,List.mem_cons_of_mem _ (mem_zip_self e).2⟩
theorem map2_zip:∀ {l:List Value},(l.zip l).map (·.2)=l
 |[]=>rfl
 |v :: l=>by show v :: (l.zip l).map (·.2)=_;rw[map2_zip]
theorem back_pairs{xs:Array Keyed}{vs:List Value}(hp:xs.Perm (pairsOf vs)):xs=pairsOf (xs.toList.map (·.2))/\(xs.toList.map (·.2)).Perm vs:=by
 have hp':xs.toList.Perm (vs.zip vs):=by
  have:=Array.perm_iff_toList_perm.mp hp
  rw[pairsOf_toList]at this
  exact this
 refine⟨?_,?_⟩
 ·apply Array.ext'
  rw[pairsOf_toList,map2_pairs fun p hq=>(mem_zip_self (hp'.mem_iff.mp hq)).1]
 ·have:=hp'.map (·.2)
  rw[map2_zip]at this
  exact this
theorem sort_gen{κ:KeyKind}{kd:SortKind}{a:Addr}{vs:List Value}{n:Nat}{P:Fin->Shared->Prop}(ho:s.heap.get? a=some (seqObj "list" vs.toArray n))(h0:KeysOf κ (pairsOf vs))(hl:vs.length<64)
  (hk:2<=vs.length->∀ g:Heap,(∀ b u,b≠a->s.heap.get? b=some u->g.get? b=some u)->LtOk κ kd prog w A { s with heap:=g }/\∀ R:SortKind->Shared->Prop,R kd { s with heap:=g }->wpAny (model prog w) A (keyKind' vs.toArray) R E { s with heap:=g })
  (h:∀ (ws:List Value) (g:Heap) (c:Nat),ws.Perm vs->SortedToK κ (pairsOf ws) ws.length->(∀ b u,b≠a->s.heap.get? b=some u->g.get? b=some u)->g.get? a=some (seqObj "list" ws.toArray c)->P (.done (.ret .none)) { s with heap:=g }) :
  wpAny (model prog w) A (Builtin.«list.sort» ⟨[.ref a],[]⟩) P E s:=by
 have lt0:a<s.heap.objs.size:=Heap.lt_size ho
 have k1:∀ b u,b≠a->s.heap.get? b=some u->(s.heap.update a (Obj.mapSeq fun _=>#[])).get? b=some u:=fun b u ne e=>by rw[Heap.get?_update_ne _ _ _ _ ne];exact e
 obtain⟨c1,g1⟩:∃ c1,(s.heap.update a (Obj.mapSeq fun _=>#[])).get? a=some (seqObj "list" #[] c1):=⟨_,get?_update_seq ho _⟩
 generalize hg1:s.heap.update a (Obj.mapSeq fun _=>#[])=G1 at k1 g1
 have k2:∀ b u,b≠a->s.heap.get? b=some u->((G1.push (seqObj "tuple" vs.toArray 0)).push (seqObj "list" #[] 0)).get? b=some u:=fun b u ne e=>Heap.get?_push_of_some _ (Heap.get?_push_of_some _ (k1 b u ne e))
 have g2:((G1.push (seqObj "tuple" vs.toArray 0)).push (seqObj "list" #[] 0)).get? a=some (seqObj "list" #[] c1):=Heap.get?_push_of_some _ (Heap.get?_push_of_some _ g1)
 rw[list_sort_plain]
 refine wpAny_bind (listItems_at ho rfl (wpAny_bind (listUpdate_at ho rfl ?_ (hsz:=by rw[List.size_toArray,sizeLine_eq];lia))))
 rw[hg1]
 refine wpAny_bind (seqEpoch_at g1 rfl (wpAny_bind (wpAny_newTuple ?_ (by show vs.length<=_;rw[sizeLine_eq];lia))))
 refine wpAny_bind (wpAny_newList (wpAny_holding ?_))
 show wpAny (model prog w) A _ P E { s with heap:=(G1.push (seqObj "tuple" vs.toArray 0)).push (seqObj "list" #[] 0) }
 generalize (G1.push (seqObj "tuple" vs.toArray 0)).push (seqObj "list" #[] 0)=G2 at k2 g2
 dsimp only
 have fin:∀ st':SortSt,(arrOf st').Perm (pairsOf vs)->SortedToK κ (arrOf st') (pairsOf vs).size->P (.done (.ret .none)) { s with heap:=G2.update a (Obj.mapSeq fun _=>(arrOf st').map (·.2)) }:=fun st' hp hs=>by
  obtain⟨e,p⟩:=back_pairs hp
  obtain⟨c3,g3⟩:∃ c3,(G2.update a (Obj.mapSeq fun _=>(arrOf st').map (·.2))).get? a=some (seqObj "list" ((arrOf st').map (·.2)) c3):=⟨_,get?_update_seq g2 _⟩
  refine h ((arrOf st').toList.map (·.2)) _ c3 p ?_ (fun b u ne z=>by rw[Heap.get?_update_ne _ _ _ _ ne];exact k2 b u ne z) ?_
  ·rw[<- e]
   have l2:(pairsOf vs).size=((arrOf st').toList.map (·.2)).length:=by rw[pairsOf_size,p.length_eq]
   rw[<- l2]
   exact hs
  ·rw[g3]
   congr 2
   apply Array.ext'
   simp
 by_cases h2:vs.toArray.size<2
 ·rw[if_pos h2,if_pos h2]
  refine wpAny_bind (wpAny_pure ?_)
  rw[StateT.run_pure]
  refine wpAny_bind (wpAny_pure ?_)
  dsimp only
  refine wpAny_bind (seqEpoch_at g2 rfl (wpAny_bind (listUpdate_at g2 rfl ?_ (hsz2:=by rw[Array.size_map];show(pairsOf vs).size<=_;rw[pairsOf_size,sizeLine_eq];lia))))
  simp only[bne_self_eq_false,Bool.false_eq_true,if_false]
  refine wpAny_pure (fin (SortSt.mk' general' (vs.toArray.zip vs.toArray) #[] 7 none) (Array.Perm.refl _) fun i j ij jl=>?_)
  have e:i=j:=by
   rw[pairsOf_size]at jl
   simp only[List.size_toArray]at h2
   lia
  rw[e]
  exact KeyOrd.kle_refl _
 ·have h2':2<=vs.length:=by simpa using h2
  obtain⟨lo,kk⟩:=hk h2' G2 k2
  rw[if_neg h2,if_neg h2]
  refine wpAny_bind (kk _ ?_)
  refine wpAny_bind (wpAny_mono (runs_okZ (κ:=κ) (kd:=kd) (a₀:=pairsOf vs) (st:=SortSt.mk' kd (vs.toArray.zip vs.toArray) #[] 7 none) (Q:=fun _ st'=>(arrOf st').Perm (pairsOf vs)/\failedOf st'=none/\SortedToK κ (arrOf st') (pairsOf vs).size)
   lo h0 ⟨Array.Perm.refl _,rfl,rfl,rfl,fun k z=>absurd z (Nat.not_lt_zero _)⟩ (by rw[pairsOf_size];exact h2') (by rw[pairsOf_size];exact hl) fun st' a1 a2 a3=>⟨a1,a2,fun i j ij jl=>by
    have:=a3 i j ij jl
    rw[Nat.zero_add,Nat.zero_add]at this
    exact this⟩) ?_ fun _ _ e=>e)
  rintro⟨⟨⟩,st'⟩ s' ⟨rfl,hp,hf,hs⟩
  dsimp only
  refine wpAny_bind (seqEpoch_at g2 rfl (wpAny_bind (listUpdate_at g2 rfl ?_ (hsz2:=by refine Nat.le_trans (Nat.le_of_eq ((Array.size_map ..).trans (hp.size_eq.trans (pairsOf_size _)))) ?_;rw[sizeLine_eq];lia))))
  rw[hf]
  simp only[bne_self_eq_false,Bool.false_eq_true,if_false]
  exact wpAny_pure (fin st' hp hs)
theorem sort_at{κ:KeyKind}{kd:SortKind}{a:Addr}{vs:List Value}{n:Nat}{P:Fin->Shared->Prop}(ho:s.heap.get? a=some (seqObj "list" vs.toArray n))(h0:KeysOf κ (pairsOf vs))(hl:vs.length<64)
  (hk:2<=vs.length->∀ g:Heap,(∀ b u,b≠a->s.heap.get? b=some u->g.get? b=some u)->LtOk κ kd prog w A { s with heap:=g }/\∀ R:SortKind->Shared->Prop,R kd { s with heap:=g }->wpAny (model prog w) A (keyKind' vs.toArray) R E { s with heap:=g })
  (h:∀ (ws:List Value) (g:Heap) (c:Nat),ws.Perm vs->SortedToK κ (pairsOf ws) ws.length->(∀ b u,b≠a->s.heap.get? b=some u->g.get? b=some u)->g.get? a=some (seqObj "list" ws.toArray c)->P (.done (.ret .none)) { s with heap:=g }) :
  wpAny (model prog w) A (Builtin.«list.sort» ⟨[.ref a],[]⟩) P E s:=sort_gen ho h0 hl hk h
end
end Srt
namespace L2
open PySem PySem.W PyProof.Rows Srt
theorem intsV_of:∀ {ns:List Int}{us:List Value},Vals (ns.map V.int) us->IntsV ns us
 |[],_,.nil=>.nil
 |n :: ns,_,.cons r t=>.cons r (intsV_of t)
noncomputable def keyA(g:Heap)(a:Addr):List Int:=(show Option (List Int)from(κT g).keyOf (.ref a)).getD []
theorem keyA_eq{g:Heap}{a:Addr}{k:List Int}(x:TupI g (.ref a) k):keyA g a=k:=by
 unfold keyA
 rw[κT_key x]
 rfl
noncomputable def unref:Value->Addr
 | .ref a=>a
 | _=>(0:Nat)
section
variable{X:Cx}{pins:List (Addr×Obj)}{σ:St}{H:Hp}{s:Shared}
theorem tupI_of(I:Inv X pins σ H s){a:Addr}{ns:List Int}(h:H a=some (.tup (ns.map V.int))):TupI s.heap (.ref a) ns:=by
 obtain⟨its,r,⟨o,e,c,n,d⟩,_⟩:=I.tuple (SqT.of h)
 exact⟨a,o,_,n,rfl,e,c,d,intsV_of r⟩
theorem looks_int{M:Model}{h:Heap}{i:Int}{t:Tok}:Looks M h (typeOf (.int i t)) (Value.type "int"):=Looks.now
theorem tups_of{g:Heap}:∀ {as:List Addr}{ks:List (List Int)},Paired (fun a k=>TupI g (.ref a) k/\k≠[]) as ks->∃ fs:List Value,KatTups g (as.map .ref) fs/\fs.length=as.length/\∀ v∈fs,∃ i t,v=Value.int i t:=by
 intro as ks h
 induction h with
 |nil=>exact⟨[],trivial,rfl,fun _ h=>nomatch h⟩
 | @cons a k as ks h r ih =>
  obtain⟨⟨a',o,its,n,e,g1,c,d,p⟩,ne⟩:=h
  cases e
  obtain⟨fs,t,l,z⟩:=ih
  cases k with
  |nil=>exact absurd rfl ne
  |cons i k =>
   obtain⟨il⟩:=its
   cases p with
   |cons r1 r2 =>
    obtain⟨tk,rfl⟩:=r1
    refine⟨_ :: fs,KatTups.cons g1 c d rfl t,by simp[l],fun v hv=>?_⟩
    rcases List.mem_cons.mp hv with e | e
    ·exact⟨i,tk,e⟩
    ·exact z v e
theorem sort_new{L:Addr}{A:Around}{E:Value->Shared->Prop}{as:List Addr}{ks:List (List Int)}{P:Fin->Shared->Prop}(ho:s.heap.get? L=some (seqObj "list" (as.map Value.ref).toArray 0))(hT:Paired (fun a k=>TupI s.heap (.ref a) k/\k≠[]) as ks)(hl:as.length<64)
  (h:∀ (bs:List Addr) (ns:List (List Int)) (g:Heap) (c:Nat),bs.Perm as->ns.Perm ks->ns.Pairwise (fun x y=>lexlt y x=false)->Paired (fun a k=>TupI s.heap (.ref a) k) bs ns->(∀ b u,b≠L->s.heap.get? b=some u->g.get? b=some u)->g.get? L=some (seqObj "list" (bs.map Value.ref).toArray c) ->
   P (.done (.ret .none)) { s with heap:=g }):wpAny (model X.prog X.w) A (Builtin.«list.sort» ⟨[.ref L],[]⟩) P E s:=by
 have neL:∀ v ns,TupI s.heap v ns->v≠.ref L:=fun v ns x e=>by
  obtain⟨a,o,its,n,rfl,g1,c,_⟩:=x
  cases e
  rw[ho]at g1
  cases g1
  exact absurd (show Value.type "list" = Value.type "tuple" from c) (by decide)
 have lenk:as.length=ks.length:=hT.length
 have kp:∀ g:Heap,(∀ b u,b≠L->s.heap.get? b=some u->g.get? b=some u)->∀ v ns,TupI s.heap v ns->TupI g v ns:=fun g k v ns x=>x.to fun b u e z=>k b u (fun q=>neL v ns x (by rw[e,q])) z
 have memk:∀ v∈as.map Value.ref,∃ k,TupI s.heap v k:=fun v hv=>by
  obtain⟨a,ha,rfl⟩:=List.mem_map.mp hv
  clear h ho neL kp hl lenk hv
  induction hT with
  |nil=>cases ha
  |cons r _ ih =>
   rcases List.mem_cons.mp ha with e | e
   ·rw[e];exact⟨_,r.1⟩
   ·exact ih e
 refine sort_at (κ:=κT s.heap) (kd:=tuples' true) ho (fun p hp=>?_) (by rw[List.length_map];exact hl) (fun l2 g k=>⟨ltT_ok (kp g k),fun R hR=>?_⟩) fun ws g c pw sw k gL=>?_
 ·rw[pairsOf_toList]at hp
  obtain⟨e1,e2⟩:=Srt.mem_zip_self hp
  obtain⟨kk,x⟩:=memk p.2 e2
  rw[e1]
  exact⟨kk,κT_key x⟩
 ·have hT':Paired (fun a k=>TupI g (.ref a) k/\k≠[]) as ks:=Paired.mapP hT fun a b z=>⟨kp g k _ _ z.1,z.2⟩
  obtain⟨fs,t,l,z⟩:=tups_of hT'
  by_cases e0:fs=[]
  ·rw[e0]at l
   rw[List.length_map]at l2
   simp at l
   lia
  ·refine kat_kind (T:=Value.type "int") t (List.length_pos_iff.mpr e0) (fun v hv=>?_) (by decide) ?_
   ·obtain⟨i,tk,rfl⟩:=z v hv
    exact looks_int
   ·have e:(Value.type "int" != Value.type "tuple")=true:=by decide
    rw[e]
    exact hR
 ·-- the values are refs again,the keys a permutation
  have unr:∀ l:List Value,(∀ v∈l,∃ a,v=Value.ref a)->(l.map unref).map Value.ref=l:=fun l hl=>by
   induction l with
   |nil=>rfl
   |cons v l ih =>
    obtain⟨a,rfl⟩:=hl v (List.mem_cons_self ..)
    rw[List.map_cons,List.map_cons,ih fun v hv=>hl v (List.mem_cons_of_mem _ hv)]
    rfl
  have eb:(ws.map unref).map Value.ref=ws:=unr ws fun v hv=>by
   obtain⟨a,_,rfl⟩:=List.mem_map.mp (pw.mem_iff.mp hv)
   exact⟨a,rfl⟩
  have pb:(ws.map unref).Perm as:=by
   have:=pw.map unref
   rw[List.map_map]at this
   have e:(as.map (unref ∘ Value.ref))=as:=by
    rw[show(unref ∘ Value.ref)=id from rfl,List.map_id]
   rw[e]at this
   exact this
  generalize ws.map unref=bs at eb pb
  subst eb
  have ek:ks=as.map (keyA s.heap):=by
   clear h ho neL kp hl lenk memk pw sw pb
   induction hT with
   |nil=>rfl
   |cons r _ ih=>rw[List.map_cons,keyA_eq r.1,<- ih]
  have kb:∀ b∈bs,TupI s.heap (.ref b) (keyA s.heap b):=fun b hb=>by
   obtain⟨k,x⟩:=memk (.ref b) (List.mem_map.mpr ⟨b,pb.mem_iff.mp hb,rfl⟩)
   rw[keyA_eq x]
   exact x
  refine h bs (bs.map (keyA s.heap)) g c pb (by rw[ek];exact pb.map _) ?_ ?_ k gL
  ·rw[List.pairwise_iff_getElem]
   intro i j hi hj ij
   rw[List.length_map]at hi hj
   have z:=sw i j (Nat.le_of_lt ij) (by rw[List.length_map];exact hj)
   have kk:∀ m (hm:m<bs.length),KK (κT s.heap) (pairsOf (bs.map Value.ref)) m=keyA s.heap bs[m]:=fun m hm=>by
    have e:(pairsOf (bs.map Value.ref))[m]?=some (Value.ref bs[m],Value.ref bs[m]):=by simp[pairsOf,hm]
    unfold KK
    rw[e]
    rfl
   rw[kk i hi,kk j hj]at z
   rw[List.getElem_map,List.getElem_map]
   exact z
  ·clear h ho neL kp hl lenk memk pw sw pb gL
   induction bs with
   |nil=>exact .nil
   |cons b bs ih=>exact .cons (kb b (List.mem_cons_self ..)) (ih fun b hb=>kb b (List.mem_cons_of_mem _ hb))
theorem call_sortedD(hc:X.calm=true):CallR X (.builtin "sorted") (fun xs H Q=>∃ d kvs ks,xs=[V.ref d]/\H d=some (.dT kvs)/\kvs.map (·.1)=List.map (List.map Sum.inl) ks/\(∀ k∈ks,k≠[])/\kvs.length<64 /\
  ∀ (l:Addr) (as:List Addr) (ns:List (List Int)),H l=none->ns.Perm ks->ns.Pairwise (fun x y=>lexlt y x=false)->Paired (fun a n=>H a=some (.tup (n.map V.int))) as ns->Q (.ref l) (upd H l (.lst (as.map V.ref)))):=by
 intro pins s σ H xs us Q I r h
 obtain⟨d,kvs,ks,rfl,hd,hks,hne,hlen,q⟩:=h
 obtain⟨u,rfl,rx⟩:=vals1 r
 cases rx
 obtain⟨z,nsys,xs,pr,o,es,ep,go,ex,dt,ee,nd⟩:=I.hok d _ hd
 have hpl:xs.length=kvs.length:=pr.length.symm
 have hT:Paired (fun a k=>(H a=some (.tup (k.map V.int))/\k≠[])) (xs.map fun q=>q.2.1) ks:=by
  clear q hd hlen z nd go ex dt ee hpl
  induction pr generalizing ks with
  |nil =>
   cases ks with
   |nil=>exact .nil
   |cons _ _=>simp at hks
  | @cons p x l1 l2 r1 r2 ih =>
   cases ks with
   |nil=>simp at hks
   |cons k ks =>
    simp only[List.map_cons,List.cons.injEq]at hks
    refine .cons ⟨?_,hne k (List.mem_cons_self ..)⟩ (ih ks hks.2 fun k hk=>hne k (List.mem_cons_of_mem _ hk))
    rw[r1.2.1,hks.1,List.map_map]
    rfl
 have raw:RawD d (xs.map fun q=>Value.ref q.2.1) ep s.heap:=⟨o,es,go,ex,dt,by rw[ee,List.map_map];rfl⟩
 refine Calls.call_function_entry kind_sorted plain_sorted entry_sorted (args_sorted1 _) ?_
 unfold Builtin.«sorted»
 refine wpAny_bind (m:=checkCount "sorted" 1 1 _) (wpAny_pure (wpAny_bind (kdu_collect (A:=X.A.in1) (rawSrc nsys) (show X.A.handled=none from I.ok.hd hc) raw (by rw[List.length_map,hpl,sizeLine_eq];lia) fun h' tk acc kp hacc=>?_)))
 have eacc:acc.toList=(xs.map fun q=>q.2.1).map Value.ref:=by
  apply List.ext_getElem?
  intro i
  by_cases hi:i<acc.size
  ·have e1:acc.toList[i]?=some acc[i]:=by rw[Array.getElem?_toList,Array.getElem?_eq_getElem hi]
   have e2:=hacc.2 i acc[i] (Array.getElem?_eq_getElem hi)
   rw[e1,List.map_map]
   exact e2.symm
  ·have l0:=hacc.1
   rw[List.length_map]at l0
   rw[List.getElem?_eq_none (by rw[Array.length_toList];omega),List.getElem?_eq_none (by rw[List.length_map,List.length_map];lia)]
 rw[eacc]
 generalize exs:(xs.map fun q=>q.2.1)=as0 at hT
 have las:as0.length<64:=by rw[<- exs,List.length_map];lia
 refine wpAny_bind (wpAny_newList ?_ (by rw[List.length_map,sizeLine_eq];lia))
 have gL:(h'.push (seqObj "list" (as0.map Value.ref).toArray 0)).get? h'.objs.size=some (seqObj "list" (as0.map Value.ref).toArray 0):=Heap.get?_push_size _ rfl
 have I1:Inv X pins σ H { s with heap:=h',toks:=tk }:=I.kept kp
 have kp2:∀ b u,h'.get? b=some u->(h'.push (seqObj "list" (as0.map Value.ref).toArray 0)).get? b=some u:=fun b u e=>Heap.get?_push_of_some _ e
 have tT:Paired (fun a k=>TupI (h'.push (seqObj "list" (as0.map Value.ref).toArray 0)) (.ref a) k/\k≠[]) as0 ks:=Paired.mapP hT fun a k z=>⟨(tupI_of I1 z.1).to fun b u _ e=>kp2 b u e,z.2⟩
 have memH:∀ a∈as0,∃ k:List Int,H a=some (.tup (k.map V.int)):=fun a ha=>by
  clear q exs eacc raw gL tT kp2 las hks hne hlen
  induction hT with
  |nil=>cases ha
  |cons r _ ih =>
   rcases List.mem_cons.mp ha with e | e
   ·rw[e];exact⟨_,r.1⟩
   ·exact ih e
 refine wpAny_bind (wpAny_holding (wpAny_call_entry slot_list_sort ⟨_,gL,rfl⟩ entry_list_sort (sort_new (X:=X) (s:={ s with heap:=h'.push (seqObj "list" (as0.map Value.ref).toArray 0),toks:=tk }) gL tT las fun bs ns g c pb pn pw pt kp3 gg=>⟨_,rfl,?_⟩) (args_list_sort _)))
 refine wpAny_pure ⟨_,rfl,.ref h'.objs.size,_,I1.laid (t':=tk) (a:=h'.objs.size) (o:=.lst (bs.map V.ref)) (fun b u e=>kp3 b u (Nat.ne_of_lt (Heap.lt_size e)) (kp2 b u e)) (Nat.le_refl _) (show ObjOk X.prog X.w _ g _ (.lst (bs.map V.ref))from⟨?_,bs.map Value.ref,c,?_,gg⟩),rfl,q _ bs ns (I1.hok.fresh (Nat.le_refl _)) pn pw ?_⟩
 ·rw[List.length_map,pb.length_eq,sizeLine_eq];lia
 ·clear pb pt gg
  induction bs with
  |nil=>exact .nil
  |cons b bs ih=>exact .cons rfl ih
 ·have memB:∀ a∈bs,∃ k:List Int,H a=some (.tup (k.map V.int)):=fun a ha=>memH a (pb.mem_iff.mp ha)
  clear pb gg pn pw
  induction pt with
  |nil=>exact .nil
  | @cons a k l1 l2 r1 _ ih =>
   refine .cons ?_ (ih fun a ha=>memB a (List.mem_cons_of_mem _ ha))
   obtain⟨k',e⟩:=memB a (List.mem_cons_self ..)
   rw[e,r1.inj ((tupI_of I1 e).to fun b u _ z=>kp2 b u z)]
end
open PySem PySem.W PyProof.Rows
section
variable{X:Cx}
theorem call_sum(hc:X.calm=true):CallR X (.builtin "sum") (fun xs H Q=>∃ (l:Addr) (ns:List Int),xs=[V.ref l]/\SqL X.K H l (ns.map V.int)/\Q (.int ns.sum) H):=by
 intro pins s σ H xs us Q I r h
 obtain⟨l,ns,rfl,hq,q⟩:=h
 obtain⟨u,rfl,rx⟩:=vals1 r
 cases rx
 obtain⟨its,r',pl,hz⟩:=I.list hq
 have hi:=intsAre_of r'
 obtain⟨ys,hx⟩:=hi.allInts.items
 have pl':s.heap.IsList l (intItems ys):=hx▸pl.isList
 refine sum_intListG (I.ok.hd hc) pl' fun h' tk t' hk=>?_
 have e1:ns=ys.toList.map (·.1):=by
  rw[<- nums_intItems,<- hx]
  exact(show numsOf its.toArray.toList=ns from hi.numsOf).symm
 have e2:preSum (numAt ys) ys.size=ns.sum:=by rw[preSum_eq,List.take_of_length_le (by simp),e1]
 rw[e2]
 exact⟨.int ns.sum,H,I.kept hk,⟨t',rfl⟩,q⟩
theorem call_range(X:Cx):CallR X (.type "range") (fun xs H Q=>∃ j:Int,xs=[V.int j]/\∀ p,H p=none->Q (.ref p) (upd H p (.rng 0 j))):=by
 intro pins s σ H xs us Q I r h
 obtain⟨j,rfl,q⟩:=h
 obtain⟨u,rfl,t,rfl⟩:=vals1 r
 refine call_range_1 ⟨.ref s.heap.objs.size,_,I.laid (t':=s.toks+1+1) (a:=s.heap.objs.size) (o:=.rng 0 j) (fun b o e=>Heap.get?_push_of_some _ e) (Nat.le_refl _) ⟨_,_,_,Heap.get?_push_size _ rfl⟩,rfl,q _ (I.hok.fresh (Nat.le_refl _))⟩
noncomputable def upto(n:Nat):List Int:=(List.range n).map fun(i:Nat)=>(i:Int)
theorem upto_length(n:Nat):(upto n).length=n:=by simp[upto]
theorem call_list_rng(hc:X.calm=true):CallR X (.type "list") (fun xs H Q=>∃ p j,xs=[V.ref p]/\H p=some (.rng 0 j)/\-(2 ^ 62)<=j/\j<=1000000/\∀ l,H l=none->Q (.ref l) (upd H l (.lst ((upto j.toNat).map V.int)))):=by
 intro pins s σ H xs us Q I r h
 obtain⟨p,j,rfl,hp,h1,h2,q⟩:=h
 obtain⟨u,rfl,rx⟩:=vals1 r
 cases rx
 obtain⟨t,u,v,e⟩:=I.hok p _ hp
 have rs:Builtin.Range.rangeSize 0 j 1=((j.toNat:Nat):Int):=by rw[rangeSize_one];split <;> lia
 refine call_list_range (I.ok.hd hc) (show IsRange s.heap p 0 j 1 t u v from e) (small_one (by lia) (by lia) h1 (by lia)) rs (by lia) fun h' tk acc c kp hD hI=>?_
 refine⟨.ref s.heap.objs.size,_,I.laid (t':=tk) (a:=s.heap.objs.size) (o:=.lst ((upto j.toNat).map V.int)) kp (Nat.le_refl _) (show ObjOk X.prog X.w _ h' _ (.lst ((upto j.toNat).map V.int))from⟨?_,acc.toList,c,?_,by rw[Array.toArray_toList];exact hD⟩),rfl,q _ (I.hok.fresh (Nat.le_refl _))⟩
 ·rw[List.length_map,upto_length,sizeLine_eq];lia
 ·have len:acc.toList.length=j.toNat:=by rw[Array.length_toList];exact hI.1
  have key:∀ (n:Nat) (a:List Value) (b:Nat),a.length=n->(∀ i u,a[i]?=some u->∃ t,u=Value.int ((b+i:Nat):Int) t)->Vals (((List.range' b n).map fun(i:Nat)=>(i:Int)).map V.int) a:=by
   intro n
   induction n with
   |zero=>intro a b e _;rw[List.eq_nil_of_length_eq_zero e];exact .nil
   |succ n ih =>
    intro a b e f
    cases a with
    |nil=>simp at e
    |cons u a =>
     rw[List.range'_succ,List.map_cons,List.map_cons]
     refine .cons (f 0 u rfl) (ih a (b+1) (by simpa using e) fun i u hu=>?_)
     obtain⟨t,z⟩:=f (i+1) u (by simpa using hu)
     exact⟨t,by rw[z];congr 1;lia⟩
  have:=key j.toNat acc.toList 0 len fun i u hu=>by
   obtain⟨t,z⟩:=hI.2 i u (by rw[<- Array.getElem?_toList];exact hu)
   exact⟨t,by rw[z];congr 1;lia⟩
  rw[<- List.range_eq_range']at this
  exact this
theorem all_ints{ns ms:List Int}{us vs:List Value}(r:Vals (ns.map V.int) us)(r':Vals (ms.map V.int) vs)(hl:ns.length=ms.length):(List.range us.length).all (fun j=>decide (ns[j]?=ms[j]?))=decide (ns=ms):=by
 have e1:us.length=ns.length:=by rw[<- r.length];simp
 rw[e1]
 by_cases h:ns=ms
 ·subst h;simp
 ·rw[decide_eq_false h,Bool.eq_false_iff]
  intro z
  apply h
  rw[List.all_eq_true]at z
  apply List.ext_getElem? 
  intro i
  by_cases hi:i<ns.length
  ·exact of_decide_eq_true (z i (List.mem_range.mpr hi))
  ·rw[List.getElem?_eq_none (by lia),List.getElem?_eq_none (by lia)]
theorem eqAt_ints{A:Around}{s:Shared}{ns ms:List Int}{us vs:List Value}(r:Vals (ns.map V.int) us)(r':Vals (ms.map V.int) vs)(j:Nat)(h1:j<us.toArray.size)(h2:j<vs.toArray.size):SeqAt.EqAt A s us.toArray[j] vs.toArray[j] (decide (ns[j]?=ms[j]?)):=by
 have l1:=r.length
 have l2:=r'.length
 simp only[List.length_map,List.size_toArray]at l1 l2 h1 h2
 obtain⟨u,e1,t1,q1⟩:=r.get (i:=j) (x:=V.int (ns[j]'(by lia))) (by rw[List.getElem?_map,List.getElem?_eq_getElem (by lia)];rfl)
 obtain⟨u',e2,t2,q2⟩:=r'.get (i:=j) (x:=V.int (ms[j]'(by lia))) (by rw[List.getElem?_map,List.getElem?_eq_getElem (by lia)];rfl)
 have g1:us.toArray[j]=u:=by
  have:us[j]?=some us.toArray[j]:=by simp[h1]
  rw[this]at e1
  exact Option.some.inj e1
 have g2:vs.toArray[j]=u':=by
  have:vs[j]?=some vs.toArray[j]:=by simp[h2]
  rw[this]at e2
  exact Option.some.inj e2
 rw[g1,g2,q1,q2]
 have e:decide (ns[j]?=ms[j]?)=(ns[j]'(by lia) == ms[j]'(by lia)):=by
  rw[List.getElem?_eq_getElem (by lia),List.getElem?_eq_getElem (by lia),Bool.beq_eq_decide_eq]
  simp
 rw[e]
 exact SeqAt.EqAt.int_int _ _ _ _
inductive rL2I(K:PySem.W.Frag)(neg:Bool)(x:V)(y:V)(H:Hp)(Q:VK):Prop where
 |mk (p q:Addr) (ns ms:List Int) (h1:x = .ref p) (h2:y = .ref q) (h3:SqL K H p (ns.map V.int)) (h4:SqL K H q (ms.map V.int)) (h5:Q (.bl (if neg then !decide (ns=ms)else decide (ns=ms))) H)
noncomputable def rL2(K:PySem.W.Frag)(neg:Bool):R2:=fun x y H Q=>rL2I K neg x y H Q
theorem op_neL(hu:X.A.units<cLine):OpR X (compareOp .NotEq) (rL2 X.K true):=by
 intro pins s σ H x y v u Q I rx ry h
 obtain⟨p,q',ns,ms,rfl,rfl,h1,h2,q⟩:=h
 cases rx
 cases ry
 obtain⟨its,r,pl,hz⟩:=I.list h1
 obtain⟨its',r',pl',hz'⟩:=I.list h2
 have l1:=r.length
 have l2:=r'.length
 rw[List.length_map]at l1 l2
 by_cases e:ns.length=ms.length
 ·refine SeqAt.RcNeAt.lists pl.isList pl'.isList (by simp only[List.size_toArray];lia) hu (e:=fun j=>decide (ns[j]?=ms[j]?)) (eqAt_ints r r') _ _ _ _ ?_
  rw[List.size_toArray,all_ints r r' e]
  exact⟨.bl _,H,I,rfl,q⟩
 ·refine SeqAt.RcNeAt.lists_lengths pl.isList pl'.isList (by simp only[List.size_toArray,bne_iff_ne];lia) hu _ _ _ _ ?_
  have z:ns≠ms:=fun z=>e (by rw[z])
  rw[if_pos rfl,decide_eq_false z]at q
  exact⟨.bl _,H,I,rfl,q⟩
end
theorem star_sub{a b:Expr}{pos:Pos}{rest:List Expr}{env:Env}:starEach (.Subscript a b pos :: rest) env=(false,eval (.Subscript a b pos) env) :: starEach rest env:=rfl
theorem star_call{f:Expr}{args:List Expr}{ks:List Keyword}{pos:Pos}{rest:List Expr}{env:Env}:starEach (.Call f args ks pos :: rest) env=(false,eval (.Call f args ks pos) env) :: starEach rest env:=rfl
theorem star_bin{a b:Expr}{op:Operator}{pos:Pos}{rest:List Expr}{env:Env}:starEach (.BinOp a op b pos :: rest) env=(false,eval (.BinOp a op b pos) env) :: starEach rest env:=rfl
theorem star_comp{e:Expr}{gs:List Comprehension}{sc:Scope}{pos:Pos}{rest:List Expr}{env:Env}:starEach (.ListComp e gs sc pos :: rest) env=(false,eval (.ListComp e gs sc pos) env) :: starEach rest env:=rfl
theorem star_lst{es:List Expr}{pos:Pos}{rest:List Expr}{env:Env}:starEach (.List es pos :: rest) env=(false,eval (.List es pos) env) :: starEach rest env:=rfl
theorem star_tup{es:List Expr}{k:Nat}{pos:Pos}{rest:List Expr}{env:Env}:starEach (.Tuple es k pos :: rest) env=(false,eval (.Tuple es k pos) env) :: starEach rest env:=rfl
section
variable{X:Cx}{es:List Expr}{te:TE}{t:TA}{pos:Pos}
theorem pa_sub{a b:Expr}(ha:PE X (.Subscript a b pos) te)(hr:PA X es t):PA X (.Subscript a b pos :: es) (tCons te t):=pa_cons ha hr (hs:=star_sub)
theorem pa_call{f:Expr}{args:List Expr}{ks:List Keyword}(ha:PE X (.Call f args ks pos) te)(hr:PA X es t):PA X (.Call f args ks pos :: es) (tCons te t):=pa_cons ha hr (hs:=star_call)
theorem pa_bin{a b:Expr}{op:Operator}(ha:PE X (.BinOp a op b pos) te)(hr:PA X es t):PA X (.BinOp a op b pos :: es) (tCons te t):=pa_cons ha hr (hs:=star_bin)
theorem pa_comp{e:Expr}{gs:List Comprehension}{sc:Scope}(ha:PE X (.ListComp e gs sc pos) te)(hr:PA X es t):PA X (.ListComp e gs sc pos :: es) (tCons te t):=pa_cons ha hr (hs:=star_comp)
theorem pa_lst{xs:List Expr}(ha:PE X (.List xs pos) te)(hr:PA X es t):PA X (.List xs pos :: es) (tCons te t):=pa_cons ha hr (hs:=star_lst)
theorem pa_tup{xs:List Expr}{k:Nat}(ha:PE X (.Tuple xs k pos) te)(hr:PA X es t):PA X (.Tuple xs k pos :: es) (tCons te t):=pa_cons ha hr (hs:=star_tup)
theorem star_cst{c:Const}{k:Nat}{pos:Pos}{rest:List Expr}{env:Env}:starEach (.Constant c k pos :: rest) env=(false,eval (.Constant c k pos) env) :: starEach rest env:=rfl
theorem star_nam{x:Str}{pos:Pos}{rest:List Expr}{env:Env}:starEach (.Name x pos :: rest) env=(false,eval (.Name x pos) env) :: starEach rest env:=rfl
theorem pa_cst{c:Const}{k:Nat}(ha:PE X (.Constant c k pos) te)(hr:PA X es t):PA X (.Constant c k pos :: es) (tCons te t):=pa_cons ha hr (hs:=star_cst)
theorem pa_nam{x:Str}(ha:PE X (.Name x pos) te)(hr:PA X es t):PA X (.Name x pos :: es) (tCons te t):=pa_cons ha hr (hs:=star_nam)
end
end L2
namespace Srt
open PySem PySem.W PyProof.Rows
noncomputable def SeqK(b:Bool)(g:Heap)(l:Addr)(xs:Array Value):Prop:=match b with
 |true=>g.IsTuple l xs
 |false=>g.IsList l xs
noncomputable def ItK(b:Bool)(g:Heap)(it l:Addr)(i:Nat):Prop:=match b with
 |true=>g.IsTupleIter it l i
 |false=>g.IsListIter it l i
noncomputable def itO(b:Bool)(l:Addr):Obj:=match b with
 |true=>{ cls:=.type "tuple_iterator",data:=.fields #[.ref l,.int 0 0] }
 |false=>{ cls:=.type "list_iterator",data:=.fields #[.ref l,.int 0 0] }
theorem SeqK.to{b:Bool}{g g':Heap}{l:Addr}{xs:Array Value}(x:SeqK b g l xs)(k:∀ o,g.get? l=some o->g'.get? l=some o):SeqK b g' l xs:=by
 cases b
 ·exact Heap.IsList.at x k
 ·exact Heap.IsTuple.at x k
theorem ItK.to{b:Bool}{g g':Heap}{it l:Addr}{i:Nat}(x:ItK b g it l i)(k:∀ o,g.get? it=some o->g'.get? it=some o):ItK b g' it l i:=by
 cases b
 ·exact Heap.IsListIter.at x k
 ·obtain⟨o,e,r⟩:=(show g.IsTupleIter it l i from x)
  exact⟨o,k o e,r⟩
theorem ItK.lt{b:Bool}{g:Heap}{it l:Addr}{i:Nat}(x:ItK b g it l i):∃ o,g.get? it=some o/\∀ v,o.data≠.cell v:=by
 cases b
 ·obtain⟨o,e,c,d⟩:=(show g.IsListIter it l i from x)
  exact⟨o,e,fun v z=>by rw[d]at z;cases z⟩
 ·obtain⟨o,e,c,d⟩:=(show g.IsTupleIter it l i from x)
  exact⟨o,e,fun v z=>by rw[d]at z;cases z⟩
section
variable{prog:Program}{w:World}{A:Around}{E:Value->Shared->Prop}{s:Shared}
theorem nextK_item{b:Bool}{it l:Addr}{i:Nat}{xs:Array Value}{x:Value}{Q:Value->Shared->Prop}(hit:ItK b s.heap it l i)(hl:SeqK b s.heap l xs)(hx:xs[i]?=some x)
  (q:∀ g,ItK b g it l (i+1)->Heap.SameBut it s.heap g->Q x { s with heap:=g }):wpAny (model prog w) A (Builtin.SmallTypes.nextOf (.ref it)) Q E s:=by
 cases b
 ·exact wpAny_nextOf_list_item hit hl hx q
 ·have ty:s.TypeIs (.ref it) "tuple_iterator":=by
   obtain⟨o,e,c,_⟩:=(show s.heap.IsTupleIter it l i from hit)
   exact⟨o,e,c⟩
  obtain⟨o,e,c,d⟩:=(show s.heap.IsTupleIter it l i from hit)
  obtain⟨o2,e2,_,n2,d2⟩:=(show s.heap.IsTuple l xs from hl)
  unfold Builtin.SmallTypes.nextOf;refine wpAny_bind (wpAny_callSpecial?_slot (name:=Str.ofString "__next__") ty F.slot_tuple_iterator_next (wpAny_call_entry F.slot_tuple_iterator_next ty F.entry_tuple_iterator_next ?_ (F.args_tuple_iterator_next_1 _)))
  show wpAny _ _ (field (.ref it) 0 >>= _) _ _ s;refine wpAny_bind (wpAny_field e d (x:=.ref l) rfl ?_)
  show wpAny _ _ (if(Value.ref l == Value.none)=true then _ else _) _ _ s;rw[if_neg (show ¬((Value.ref l == Value.none)=true)from Bool.false_ne_true)]
  show wpAny _ _ (field (.ref it) 1 >>= _) _ _ s;refine wpAny_bind (wpAny_field e d (x:=.int i 0) rfl ?_)
  show wpAny _ _ (seqItems? (.ref l) >>= _) _ _ s;refine wpAny_bind (wpAny_seqItems e2 d2 ?_)
  simp only[Int.toNat_natCast,hx]
  refine wpAny_bind (wpAny_setField e d (by simp) (wpAny_pure ⟨x,rfl,wpAny_pure (q _ ?_ (Heap.SameBut.update ..))⟩))
  exact(show Heap.IsTupleIter _ it l (i+1)from⟨_,Heap.get?_update_self _ e (Obj.isFreed_of_fields (Obj.data_mapFields d _)),(Obj.cls_mapFields ..).trans c,by rw[Obj.data_mapFields d];simp[rawInt]⟩)
theorem nextK_end{b:Bool}{it l:Addr}{i:Nat}{xs:Array Value}{Q:Value->Shared->Prop}(hh:A.handled=none)(hit:ItK b s.heap it l i)(hl:SeqK b s.heap l xs)(hx:xs[i]?=none)
  (q:∀ g e,Heap.ExtBut it s.heap g->(∃ o,g.get? e=some o/\o.cls = .type "StopIteration")->E (.ref e) { s with heap:=g }):wpAny (model prog w) A (Builtin.SmallTypes.nextOf (.ref it)) Q E s:=by
 cases b
 ·exact wpAny_nextOf_list_end hh hit hl hx q
 ·have ty:s.TypeIs (.ref it) "tuple_iterator":=by
   obtain⟨o,e,c,_⟩:=(show s.heap.IsTupleIter it l i from hit)
   exact⟨o,e,c⟩
  obtain⟨o,e,c,d⟩:=(show s.heap.IsTupleIter it l i from hit)
  obtain⟨o2,e2,_,n2,d2⟩:=(show s.heap.IsTuple l xs from hl)
  unfold Builtin.SmallTypes.nextOf;refine wpAny_bind (wpAny_callSpecial?_slot (name:=Str.ofString "__next__") ty F.slot_tuple_iterator_next (wpAny_call_entry F.slot_tuple_iterator_next ty F.entry_tuple_iterator_next ?_ (F.args_tuple_iterator_next_1 _)))
  show wpAny _ _ (field (.ref it) 0 >>= _) _ _ s;refine wpAny_bind (wpAny_field e d (x:=.ref l) rfl ?_)
  show wpAny _ _ (if(Value.ref l == Value.none)=true then _ else _) _ _ s;rw[if_neg (show ¬((Value.ref l == Value.none)=true)from Bool.false_ne_true)]
  show wpAny _ _ (field (.ref it) 1 >>= _) _ _ s;refine wpAny_bind (wpAny_field e d (x:=.int i 0) rfl ?_)
  show wpAny _ _ (seqItems? (.ref l) >>= _) _ _ s;refine wpAny_bind (wpAny_seqItems e2 d2 ?_)
  simp only[Int.toNat_natCast,hx];refine wpAny_bind (wpAny_rule (wpAny_bind (wpAny_setField e d (by simp) ?_)))
  show wpAny _ _ (newExc (.type "StopIteration") [] >>= _) _ _ _;refine wpAny_bind ?_
  simp only[newExc,newTuple];refine wpAny_bind (wpAny_newObj_type ?_ (by size_fits))
  refine wpAny_bind (m:=firstArgMember _ _) (wpAny_of_eq (a:=Value.none) (by first | rfl |(simp only[firstArgMember];rfl)) (wpAny_newObj_type ?_ (by size_fits)))
  simp only[raiseNew];refine wpAny_bind (wpAny_handled ?_)
  rw[show A.in1.handled=none from hh];refine wpAny_bind (wpAny_pure (wpAny_throw ?_))
  exact q _ _ (((Heap.SameBut.update ..).extBut.push _).push _) ⟨_,Heap.get?_push_size _ rfl,rfl⟩
structure ZA(z ti to i1 i2:Addr):Prop where
 a1:ti≠z
 a2:to≠z
 a3:i1≠z
 a4:i2≠z
 a5:ti≠to
 a6:ti≠i1
 a7:ti≠i2
 a8:to≠i1
 a9:to≠i2
 a10:i1≠i2
noncomputable def Off(z to i1 i2 l:Addr):Prop:=l≠z/\l≠to/\l≠i1/\l≠i2
theorem zipK_item{b1 b2:Bool}{z ti to i1 i2 l1 l2:Addr}{k:Nat}{xs ys:Array Value}{x y a b:Value}{Q:Value->Shared->Prop}(D:ZA z ti to i1 i2)(o1:Off z to i1 i2 l1)(o2:Off z to i1 i2 l2)
  (hz:IsZip s.heap z ti to .none) (hTI:IsPair s.heap ti (.ref i1) (.ref i2)) (hTO:IsPair s.heap to a b) (h1:ItK b1 s.heap i1 l1 k) (h2:ItK b2 s.heap i2 l2 k) (hl1:SeqK b1 s.heap l1 xs) (hl2:SeqK b2 s.heap l2 ys) (hx:xs[k]?=some x) (hy:ys[k]?=some y)
  (q:∀ g,IsZip g z ti to (rawInt s.heap.objs.size)->IsPair g to x y->ItK b1 g i1 l1 (k+1)->ItK b2 g i2 l2 (k+1)->IsPair g s.heap.objs.size x y->(∀ c o,c≠z->c≠to->c≠i1->c≠i2->s.heap.get? c=some o->g.get? c=some o)->Q (.ref s.heap.objs.size) { s with heap:=g }) :
  wpAny (model prog w) A (Builtin.«zip.__next__» ⟨[.ref z],[]⟩) (fun fin s'=>∃ v,fin = .done (.ret v)/\Q v s') E s:=by
 show wpAny _ _ (field (.ref z) 2 >>= _) _ _ _;refine wpAny_bind (wpAny_field hz rfl (x:=.bool false) rfl ?_)
 show wpAny _ _ (field (.ref z) 3 >>= _) _ _ _;refine wpAny_bind (wpAny_field hz rfl (x:=.ref ti) rfl (wpAny_bind (wpAny_seqItems hTI rfl ?_)))
 show wpAny _ _ (Builtin.SmallTypes.ownedTupleIsFree (.ref z) >>= _) _ _ _;refine wpAny_bind ?_
 unfold Builtin.SmallTypes.ownedTupleIsFree;refine wpAny_bind (wpAny_field hz rfl (x:=.none) rfl (wpAny_pure ?_))
 simp only[if_true];refine wpAny_bind (wpAny_rule (wpAny_bind (wpAny_field hz rfl (x:=.ref to) rfl (wpAny_bind (wpAny_setField_rec hz (by simp) fun g1 z1 e1=>?_)))))
 replace z1:IsZip g1 z ti to .ellipsis:=z1
 refine wpAny_bind ?_;simp only[List.zipIdx_cons,List.zipIdx_nil,List.forIn_cons,List.forIn_nil]
 refine wpAny_bind (wpAny_bind (wpAny_onRaise ?_));show wpAny _ _ (Builtin.SmallTypes.nextOf (.ref i1) >>= _) _ _ _
 refine wpAny_bind (nextK_item (h1.to fun o e=>e1.extBut _ _ D.a3 e) (hl1.to fun o e=>e1.extBut _ _ o1.1 e) hx fun g2 n2 e2=>wpAny_pure ?_)
 have t2:IsPair g2 to a b:=e2.extBut _ _ D.a8 (e1.extBut _ _ D.a2 hTO)
 refine wpAny_bind (wpAny_seqItems t2 rfl (wpAny_bind (wpAny_updateSeq_pair t2 fun g3 t3 e3=>?_)))
 replace t3:IsPair g3 to x b:=t3
 refine wpAny_bind (wpAny_letGo (wpAny_pure (wpAny_bind (wpAny_bind (wpAny_onRaise ?_)))));show wpAny _ _ (Builtin.SmallTypes.nextOf (.ref i2) >>= _) _ _ _
 refine wpAny_bind (nextK_item (((h2.to fun o e=>e1.extBut _ _ D.a4 e).to fun o e=>e2.extBut _ _ (Ne.symm D.a10) e).to fun o e=>e3.extBut _ _ (Ne.symm D.a9) e) (((hl2.to fun o e=>e1.extBut _ _ o2.1 e).to fun o e=>e2.extBut _ _ o2.2.2.1 e).to fun o e=>e3.extBut _ _ o2.2.1 e) hy fun g4 n4 e4=>wpAny_pure ?_)
 have t4:IsPair g4 to x b:=e4.extBut _ _ D.a9 t3
 refine wpAny_bind (wpAny_seqItems t4 rfl (wpAny_bind (wpAny_updateSeq_pair t4 fun g5 t5 e5=>?_)))
 replace t5:IsPair g5 to x y:=t5
 refine wpAny_bind (wpAny_letGo (wpAny_pure (wpAny_pure (wpAny_bind (wpAny_seqItems t5 rfl (wpAny_bind (wpAny_newTuple ?_)))))))
 have sz:g5.objs.size=s.heap.objs.size:=by rw[e5.1,e4.1,e3.1,e2.1,e1.1]
 have z5:IsZip g5 z ti to .ellipsis:=e5.extBut _ _ (Ne.symm D.a2) (e4.extBut _ _ (Ne.symm D.a4) (e3.extBut _ _ (Ne.symm D.a2) (e2.extBut _ _ (Ne.symm D.a3) z1)))
 have k5:∀ c o,c≠z->c≠to->c≠i1->c≠i2->s.heap.get? c=some o->g5.get? c=some o:=fun c o c1 c2 c3 c4 e=>e5.extBut _ _ c2 (e4.extBut _ _ c4 (e3.extBut _ _ c2 (e2.extBut _ _ c3 (e1.extBut _ _ c1 e))))
 have n15:ItK b1 g5 i1 l1 (k+1):=((n2.to fun o e=>e3.extBut _ _ (Ne.symm D.a8) e).to fun o e=>e4.extBut _ _ D.a10 e).to fun o e=>e5.extBut _ _ (Ne.symm D.a8) e
 have n25:ItK b2 g5 i2 l2 (k+1):=n4.to fun o e=>e5.extBut _ _ (Ne.symm D.a9) e
 show wpAny _ _ (Builtin.SmallTypes.ownedTupleHandOut (.ref z) (.ref g5.objs.size) >>= _) _ _ _;refine wpAny_bind ?_
 unfold Builtin.SmallTypes.ownedTupleHandOut
 have z6:IsZip (g5.push { cls:=.type "tuple",data:=.seq #[x,y] }) z ti to .ellipsis:=Heap.get?_push_of_some _ z5
 refine wpAny_bind (wpAny_setField_rec z6 (by simp) fun g7 z7 e7=>?_)
 replace z7:IsZip g7 z ti to (rawInt g5.objs.size):=z7
 refine wpAny_setField_rec z7 (by simp) fun g8 z8 e8=>?_
 replace z8:IsZip g8 z ti to (rawInt g5.objs.size):=z8
 have up:∀ c o,c≠z->g5.get? c=some o->g8.get? c=some o:=fun c o c1 e=>e8.extBut _ _ c1 (e7.extBut _ _ c1 (Heap.get?_push_of_some _ e))
 have zlt:z<g5.objs.size:=Heap.lt_size z5
 have p8:IsPair g8 g5.objs.size x y:=e8.extBut _ _ (Nat.ne_of_gt zlt) (e7.extBut _ _ (Nat.ne_of_gt zlt) (Heap.get?_push_size _ rfl))
 rw[sz]at z8 p8
 refine wpAny_pure ⟨_,rfl,?_⟩
 show Q (.ref g5.objs.size) _;rw[sz]
 exact q g8 z8 (up _ _ D.a2 t5) (n15.to fun o e=>up _ o D.a3 e) (n25.to fun o e=>up _ o D.a4 e) p8 fun c o c1 c2 c3 c4 e=>up c o c1 (k5 c o c1 c2 c3 c4 e)
theorem zipK_end{b1 b2:Bool}{z ti to i1 i2 l1 l2:Addr}{k:Nat}{xs ys:Array Value}{a b:Value}{Q:Fin->Shared->Prop}(hh:A.handled=none)(D:ZA z ti to i1 i2)(o1:Off z to i1 i2 l1)(o2:Off z to i1 i2 l2)
  (hz:IsZip s.heap z ti to .none) (hTI:IsPair s.heap ti (.ref i1) (.ref i2)) (hTO:IsPair s.heap to a b) (h1:ItK b1 s.heap i1 l1 k) (h2:ItK b2 s.heap i2 l2 k) (hl1:SeqK b1 s.heap l1 xs) (hl2:SeqK b2 s.heap l2 ys) (he:xs[k]?=none\/ys[k]?=none)
  (q:∀ g e,(∀ c o,c≠z->c≠to->c≠i1->c≠i2->s.heap.get? c=some o->g.get? c=some o)->(∃ o,g.get? e=some o/\o.cls = .type "StopIteration")->E (.ref e) { s with heap:=g }) :
  wpAny (model prog w) A (Builtin.«zip.__next__» ⟨[.ref z],[]⟩) Q E s:=by
 show wpAny _ _ (field (.ref z) 2 >>= _) _ _ _;refine wpAny_bind (wpAny_field hz rfl (x:=.bool false) rfl ?_)
 show wpAny _ _ (field (.ref z) 3 >>= _) _ _ _;refine wpAny_bind (wpAny_field hz rfl (x:=.ref ti) rfl (wpAny_bind (wpAny_seqItems hTI rfl ?_)))
 show wpAny _ _ (Builtin.SmallTypes.ownedTupleIsFree (.ref z) >>= _) _ _ _;refine wpAny_bind ?_
 unfold Builtin.SmallTypes.ownedTupleIsFree;refine wpAny_bind (wpAny_field hz rfl (x:=.none) rfl (wpAny_pure ?_))
 simp only[if_true];refine wpAny_bind (wpAny_rule (wpAny_bind (wpAny_field hz rfl (x:=.ref to) rfl (wpAny_bind (wpAny_setField_rec hz (by simp) fun g1 z1 e1=>?_)))))
 replace z1:IsZip g1 z ti to .ellipsis:=z1
 refine wpAny_bind ?_;simp only[List.zipIdx_cons,List.zipIdx_nil,List.forIn_cons,List.forIn_nil]
 refine wpAny_bind (wpAny_bind (wpAny_onRaise ?_));show wpAny _ _ (Builtin.SmallTypes.nextOf (.ref i1) >>= _) _ _ _
 cases hx:xs[k]? with
 |none =>
  refine wpAny_bind (nextK_end hh (h1.to fun o e=>e1.extBut _ _ D.a3 e) (hl1.to fun o e=>e1.extBut _ _ o1.1 e) hx fun g2 e e2 he=>?_)
  obtain⟨oe,hoe,hce⟩:=he
  have z2:IsZip g2 z ti to .ellipsis:=e2 _ _ (Ne.symm D.a3) z1
  have ez:e≠z:=fun x=>by subst x;rw[z2]at hoe;cases hoe;simp at hce
  refine wpAny_setField_rec z2 (by simp) fun g3 _ e3=>q g3 e (fun c o c1 _ c3 _ x=>e3.extBut _ _ c1 (e2 _ _ c3 (e1.extBut _ _ c1 x))) ⟨oe,e3.extBut _ _ ez hoe,hce⟩
 |some x =>
  have hy:ys[k]?=none:=by
   rcases he with h | h
   ·rw[hx]at h;cases h
   ·exact h
  refine wpAny_bind (nextK_item (h1.to fun o e=>e1.extBut _ _ D.a3 e) (hl1.to fun o e=>e1.extBut _ _ o1.1 e) hx fun g2 n2 e2=>wpAny_pure ?_)
  have t2:IsPair g2 to a b:=e2.extBut _ _ D.a8 (e1.extBut _ _ D.a2 hTO)
  refine wpAny_bind (wpAny_seqItems t2 rfl (wpAny_bind (wpAny_updateSeq_pair t2 fun g3 t3 e3=>wpAny_bind (wpAny_letGo (wpAny_pure (wpAny_bind (wpAny_bind (wpAny_onRaise ?_))))))))
  show wpAny _ _ (Builtin.SmallTypes.nextOf (.ref i2) >>= _) _ _ _
  refine wpAny_bind (nextK_end hh (((h2.to fun o e=>e1.extBut _ _ D.a4 e).to fun o e=>e2.extBut _ _ (Ne.symm D.a10) e).to fun o e=>e3.extBut _ _ (Ne.symm D.a9) e) (((hl2.to fun o e=>e1.extBut _ _ o2.1 e).to fun o e=>e2.extBut _ _ o2.2.2.1 e).to fun o e=>e3.extBut _ _ o2.2.1 e) hy fun g4 e e4 he=>?_)
  obtain⟨oe,hoe,hce⟩:=he
  have z4:IsZip g4 z ti to .ellipsis:=e4 _ _ (Ne.symm D.a4) (e3.extBut _ _ (Ne.symm D.a2) (e2.extBut _ _ (Ne.symm D.a3) z1))
  have ez:e≠z:=fun x=>by subst x;rw[z4]at hoe;cases hoe;simp at hce
  refine wpAny_setField_rec z4 (by simp) fun g5 _ e5=>q g5 e (fun c o c1 c2 c3 c4 x=>e5.extBut _ _ c1 (e4 _ _ c4 (e3.extBut _ _ c2 (e2.extBut _ _ c3 (e1.extBut _ _ c1 x))))) ⟨oe,e5.extBut _ _ ez hoe,hce⟩
theorem pyIterK{b:Bool}{l:Addr}{xs:Array Value}{Q:Value->Shared->Prop}(h:SeqK b s.heap l xs)(q:Q (.ref s.heap.objs.size) { s with heap:=s.heap.push (itO b l) }):wpAny (model prog w) A (pyIter (.ref l)) Q E s:=by
 cases b
 ·exact wpAny_pyIter_list h q
 ·exact wpAny_pyIter_tuple h q
theorem ItK.new{b:Bool}{l:Addr}(g:Heap):ItK b (g.push (itO b l)) g.objs.size l 0:=by
 cases b
 ·exact(show Heap.IsListIter _ _ _ _ from⟨_,Heap.get?_push_size _ rfl,rfl,rfl⟩)
 ·exact(show Heap.IsTupleIter _ _ _ _ from⟨_,Heap.get?_push_size _ rfl,rfl,rfl⟩)
noncomputable abbrev zK2(g:Heap)(b1 b2:Bool)(l1 l2:Addr):Heap:=(g.push (itO b1 l1)).push (itO b2 l2)
noncomputable abbrev zK3(g:Heap)(b1 b2:Bool)(l1 l2:Addr):Heap:=(zK2 g b1 b2 l1 l2).push { cls:=.type "tuple",data:=.seq #[.ref g.objs.size,.ref (g.push (itO b1 l1)).objs.size] }
noncomputable abbrev zK4(g:Heap)(b1 b2:Bool)(l1 l2:Addr):Heap:=(zK3 g b1 b2 l1 l2).push { cls:=.type "tuple",data:=.seq #[.none,.none] }
noncomputable abbrev zK5(g:Heap)(b1 b2:Bool)(l1 l2:Addr):Heap:=(zK4 g b1 b2 l1 l2).push { cls:=.type "zip",data:=.fields #[.none,.bool false,.bool false,.ref (zK2 g b1 b2 l1 l2).objs.size,.ref (zK3 g b1 b2 l1 l2).objs.size] }
theorem zipK_new(b1 b2:Bool)(l1 l2:Addr)(xs ys:Array Value):Meets (Builtin.«zip.__new__» ⟨[.type "zip",.ref l1,.ref l2],[]⟩) (fun _ R s=>SeqK b1 s.heap l1 xs/\SeqK b2 s.heap l2 ys/\R (.ok (.ret (.ref (zK4 s.heap b1 b2 l1 l2).objs.size))) { s with heap:=zK5 s.heap b1 b2 l1 l2 }) :=
 .of_wp fun prog w A R s h=>by
  obtain⟨hp,g,d,tk,os⟩:=s
  obtain⟨hl1,hl2,h⟩:=h
  have hsub:=sub_zip
  have hL1:SeqK b1 (Shared.heap ⟨hp,g,d,tk,os⟩) l1 xs:=hl1
  have hL2:SeqK b2 (Shared.heap ⟨hp.push (itO b1 l1),g,d,tk,os⟩) l2 ys:=hl2.to fun o e=>Heap.get?_push_of_some _ e
  wp_walk using pyIterK hL1,pyIterK hL2
  exact⟨_,rfl,h⟩
end
end Srt
namespace L2
open PySem PySem.W PyProof.Rows Srt
noncomputable def SqB(b:Bool)(K:PySem.W.Frag)(H:Hp)(l:Addr)(xs:List V):Prop:=match b with
 |true=>SqT K H l xs
 |false=>SqL K H l xs
section
variable{X:Cx}{pins:List (Addr×Obj)}{σ:St}{H:Hp}{s:Shared}{h':Heap}
theorem Inv.seqB(I:Inv X pins σ H s){b:Bool}{l:Addr}{xs:List V}(h:SqB b X.K H l xs):∃ its:List Value,Vals xs its/\SeqK b s.heap l its.toArray/\xs.length<=sizeLine:=by
 cases b
 ·obtain⟨its,r,p,z⟩:=I.list h
  exact⟨its,r,p.isList,z⟩
 ·obtain⟨its,r,p,z⟩:=I.tuple h
  exact⟨its,r,p,z⟩
theorem Inv.seqB_inj(I:Inv X pins σ H s){b:Bool}{l:Addr}{xs ys:List V}(h:SqB b X.K H l xs)(h':SqB b X.K H l ys):xs=ys:=by
 cases b
 ·exact I.list_inj h h'
 ·exact I.tuple_inj h h'
theorem Inv.offB(I:Inv X pins σ H s){b:Bool}{l c:Addr}{xs:List V}(h:SqB b X.K H l xs)(f:FpOk X pins H c):l≠c:=by
 intro e
 subst e
 obtain⟨f0,_,_,f3,_,_⟩:=f
 have base:∀ o,X.K.lookup l=some o->False:=fun o hk=>by
  have eb:=I.ok.mod.kin l o hk
  rcases f3 with f3 | f3
  ·exact I.ok.noex l o eb f3
  ·exact absurd (Nat.lt_of_lt_of_le (Heap.lt_size eb) (Nat.le_trans I.ok.bsz f3)) (Nat.lt_irrefl _)
 cases b
 ·rcases(show SqL X.K H l xs from h)with(z |⟨o,z⟩) |⟨o,_,_,hk,_⟩
  ·rw[f0]at z;cases z
  ·rw[f0]at z;cases z
  ·exact base o hk
 ·rcases(show SqT X.K H l xs from h)with(z |⟨o,z⟩) |⟨o,_,_,hk,_⟩
  ·rw[f0]at z;cases z
  ·rw[f0]at z;cases z
  ·exact base o hk
theorem Inv.turnedL{t':Nat}{ch:List Addr}(I:Inv X pins σ H s)(hf:∀ b∈ch,FpOk X pins H b)(k:∀ b o,b∉ch->s.heap.get? b=some o->h'.get? b=some o):Inv X pins σ H { s with heap:=h',toks:=t' }:=by
 have nit:∀ b u,H b=some u->b∉ch:=fun b u e z=>by rw[(hf b z).1]at e;cases e
 have loc:X.env.locals∉ch:=fun z=>(hf _ z).2.1 rfl
 refine I.step (g':=s.gens) (d':=s.drawn) (ch:=ch) (fun b hb=>?_) (fun b o _ _ hc e _=>k b o hc e) (fun b o _ _ hc e _=>⟨o.slots,k b o hc e⟩) (fun _ _ _ _ n=>n) (fun b o hc e=>⟨o,k b o hc e⟩) (fun _ _ e=>e) (fun _ _ _ e=>e) (fun b ps e=>⟨#[],by rw[e];simp⟩) (fun m hm=>?_) (fun b u e=>?_) I.bare
 ·obtain⟨_,f1,_,f3,f4,f5⟩:=hf b hb
  exact⟨f3,f1,f4,f5⟩
 ·obtain⟨o,es,ep,ho,r⟩:=hm
  exact⟨o,es,ep,k _ o loc ho,r⟩
 ·refine(I.hok b u e).stay (fun c v hc q=>k c v ?_ q) (fun _ q=>q) fun _ _ q=>q
  rcases hc with z | z
  ·rw[z];exact nit b u e
  ·exact nit c _ z
theorem Inv.turnedN{t':Nat}{ch:List Addr}{a:Addr}{ob:HO}(I:Inv X pins σ H s)(hf:∀ b∈ch,FpOk X pins H b)(k:∀ b o,b∉ch->s.heap.get? b=some o->h'.get? b=some o)(ha:s.heap.objs.size<=a)(new:ObjOk X.prog X.w (upd H a ob) h' a ob) :
  Inv X pins σ (upd H a ob) { s with heap:=h',toks:=t' }:=by
 have hn:H a=none:=I.hok.fresh ha
 have nit:∀ b u,H b=some u->b∉ch:=fun b u e z=>by rw[(hf b z).1]at e;cases e
 have loc:X.env.locals∉ch:=fun z=>(hf _ z).2.1 rfl
 have old:∀ b o,s.heap.get? b=some o->b≠a:=fun b o e=>Nat.ne_of_lt (Nat.lt_of_lt_of_le (Heap.lt_size e) ha)
 refine I.step (g':=s.gens) (d':=s.drawn) (ch:=ch) (fun b hb=>?_) (fun b o _ _ hc e _=>k b o hc e) (fun b o _ _ hc e _=>⟨o.slots,k b o hc e⟩) (fun b o _ e n=>by rw[upd_ne (old b o e)];exact n) (fun b o hc e=>⟨o,k b o hc e⟩)
  (fun b xs e=>by rw[upd_ne (ne_of_none e hn)];exact e) (fun b o u e=>by rw[upd_ne (ne_of_none e hn)];exact e) (fun b ps e=>⟨#[],by rw[upd_ne (ne_of_none e hn),e];simp⟩) (fun m hm=>?_) (fun b u e=>?_) I.bare
 ·obtain⟨_,f1,_,f3,f4,f5⟩:=hf b hb
  exact⟨f3,f1,f4,f5⟩
 ·obtain⟨o,es,ep,ho,r⟩:=hm
  exact⟨o,es,ep,k _ o loc ho,r⟩
 ·by_cases hb:b=a
  ·subst hb
   rw[upd_same]at e
   cases e
   exact new
  ·rw[upd_ne hb]at e
   refine(I.hok b u e).stay (fun c v hc q=>k c v ?_ q) (fun c q=>by rw[upd_ne (ne_of_none q hn)];exact q) fun c xs q=>by rw[upd_ne (ne_of_none q hn)];exact q
   rcases hc with z | z
   ·rw[z];exact nit b u e
   ·exact nit c _ z
end
noncomputable def Itz(K:PySem.W.Frag)(b1 b2:Bool)(l1 l2:Addr):It :=
  ⟨fun i H=>∃ xs ys x y,SqB b1 K H l1 xs/\SqB b2 K H l2 ys/\xs[i]?=some x/\ys[i]?=some y,
   fun i H v H'=>∃ T x y,v = .ref T/\H T=none/\H'=upd H T (.tup [x,y])/\(∀ xs,SqB b1 K H l1 xs->xs[i]?=some x)/\∀ ys,SqB b2 K H l2 ys->ys[i]?=some y,
   fun i H=>∃ xs ys,SqB b1 K H l1 xs/\SqB b2 K H l2 ys/\(xs.length<=i\/ys.length<=i)⟩
theorem turn_zip{P:Program}{w:World}{K:PySem.W.Frag}{es:List Expr}{kk:Nat}{pos:Pos}(b1 b2:Bool)(z ti to i1 i2 l1 l2:Addr)(D:ZA z ti to i1 i2):Turn P w K (.Tuple es kk pos) (Itz K b1 b2 l1 l2) [z,ti,to,i1,i2] z
  (fun i h=>IsZip h z ti to .none/\IsPair h ti (.ref i1) (.ref i2)/\(∃ a b,IsPair h to a b)/\ItK b1 h i1 l1 i/\ItK b2 h i2 l2 i)where
 mem:=by simp
 obj:=fun i h st b hb=>by
  obtain⟨hz,hti,⟨a,c,hto⟩,h1,h2⟩:=st
  simp only[List.mem_cons,List.not_mem_nil,or_false]at hb
  rcases hb with e | e | e | e | e
  ·rw[e];exact⟨_,hz,fun v z=>by cases z⟩
  ·rw[e];exact⟨_,hti,fun v z=>by cases z⟩
  ·rw[e];exact⟨_,hto,fun v z=>by cases z⟩
  ·rw[e];exact h1.lt
  ·rw[e];exact h2.lt
 keep:=fun i h h' st k=>by
  obtain⟨hz,hti,⟨a,c,hto⟩,h1,h2⟩:=st
  exact⟨k z (by simp) _ hz,k ti (by simp) _ hti,⟨a,c,k to (by simp) _ hto⟩,h1.to fun o e=>k i1 (by simp) o e,h2.to fun o e=>k i2 (by simp) o e⟩
 item:=by
  intro X hP hw hK hc i pins s σ H E I hf st hg
  subst hP hw hK
  obtain⟨hz,hti,⟨a,c,hto⟩,h1,h2⟩:=st
  obtain⟨xs,ys,x,y,q1,q2,hx,hy⟩:=hg
  obtain⟨us,r1,p1,_⟩:=I.seqB q1
  obtain⟨ws,r2,p2,_⟩:=I.seqB q2
  obtain⟨u,hu,ru⟩:=r1.get hx
  obtain⟨v,hv,rv⟩:=r2.get hy
  have off1:Off z to i1 i2 l1:=⟨I.offB q1 (hf z (by simp)),I.offB q1 (hf to (by simp)),I.offB q1 (hf i1 (by simp)),I.offB q1 (hf i2 (by simp))⟩
  have off2:Off z to i1 i2 l2:=⟨I.offB q2 (hf z (by simp)),I.offB q2 (hf to (by simp)),I.offB q2 (hf i1 (by simp)),I.offB q2 (hf i2 (by simp))⟩
  have hT:s.TypeIs (.ref z) "zip":=⟨_,hz,rfl⟩
  have hn:H s.heap.objs.size=none:=I.hok.fresh (Nat.le_refl _)
  unfold pyNext
  refine wpAny_bind (wpAny_attempt (wpAny_callSpecial?_slot (name:=Str.ofString "__next__") hT F.slot_zip_next (wpAny_call_entry F.slot_zip_next hT F.entry_zip_next
   (zipK_item D off1 off2 hz hti hto h1 h2 p1 p2 (x:=u) (y:=v) (by simpa using hu) (by simpa using hv) fun g z1 t1 n1 n2 pp kp=>wpAny_pure ⟨_,rfl,?_⟩) (F.args_zip_next_1 _))))
  refine wpAny_letOwnedTupleGo_zip z1 fun g' z2 sb=>?_
  have zlt:z≠s.heap.objs.size:=Nat.ne_of_lt (Heap.lt_size hz)
  have kp2:∀ b o,b∉[z,ti,to,i1,i2]->s.heap.get? b=some o->g'.get? b=some o:=fun b o nb e=>by
   simp only[List.mem_cons,List.not_mem_nil,or_false,not_or]at nb
   exact sb.extBut _ _ nb.1 (kp b o nb.1 nb.2.2.1 nb.2.2.2.1 nb.2.2.2.2 e)
  have I2:Inv X pins σ (upd H s.heap.objs.size (.tup [x,y])) { s with heap:=g' }:=I.turnedN (t':=s.toks) (ch:=[z,ti,to,i1,i2]) (a:=s.heap.objs.size) (ob:=.tup [x,y]) hf kp2 (Nat.le_refl _) (show ObjOk X.prog X.w _ g' _ (.tup [x,y])from⟨by show 2<=sizeLine;decide,[u,v],.cons ru (.cons rv .nil),⟨_,sb.extBut _ _ (Ne.symm zlt) pp,rfl,0,rfl⟩⟩)
  refine⟨.ref s.heap.objs.size,_,I2,rfl,⟨_,x,y,rfl,hn,rfl,fun xs' h=>by rw[I.seqB_inj h q1];exact hx,fun ys' h=>by rw[I.seqB_inj h q2];exact hy⟩,⟨z2,sb.extBut _ _ D.a1 (kp _ _ D.a1 D.a5 D.a6 D.a7 hti),⟨_,_,sb.extBut _ _ D.a2 t1⟩,n1.to fun o e=>sb.extBut _ _ D.a3 e,n2.to fun o e=>sb.extBut _ _ D.a4 e⟩,fun b hb=>?_⟩
  have bo:∃ o,s.heap.get? b=some o:=by
   simp only[List.mem_cons,List.not_mem_nil,or_false]at hb
   rcases hb with e | e | e | e | e
   ·rw[e];exact⟨_,hz⟩
   ·rw[e];exact⟨_,hti⟩
   ·rw[e];exact⟨_,hto⟩
   ·rw[e];obtain⟨o,e,_⟩:=h1.lt;exact⟨o,e⟩
   ·rw[e];obtain⟨o,e,_⟩:=h2.lt;exact⟨o,e⟩
  obtain⟨o,e⟩:=bo
  rw[upd_ne (Nat.ne_of_lt (Heap.lt_size e))]
  exact(hf b hb).1
 done:=by
  intro X hP hw hK hc i pins s σ H E I hf st hg
  subst hP hw hK
  obtain⟨hz,hti,⟨a,c,hto⟩,h1,h2⟩:=st
  obtain⟨xs,ys,q1,q2,he⟩:=hg
  obtain⟨us,r1,p1,_⟩:=I.seqB q1
  obtain⟨ws,r2,p2,_⟩:=I.seqB q2
  have e1:=r1.length
  have e2:=r2.length
  have off1:Off z to i1 i2 l1:=⟨I.offB q1 (hf z (by simp)),I.offB q1 (hf to (by simp)),I.offB q1 (hf i1 (by simp)),I.offB q1 (hf i2 (by simp))⟩
  have off2:Off z to i1 i2 l2:=⟨I.offB q2 (hf z (by simp)),I.offB q2 (hf to (by simp)),I.offB q2 (hf i1 (by simp)),I.offB q2 (hf i2 (by simp))⟩
  have hT:s.TypeIs (.ref z) "zip":=⟨_,hz,rfl⟩
  unfold pyNext
  refine wpAny_bind (wpAny_attempt (wpAny_callSpecial?_slot (name:=Str.ofString "__next__") hT F.slot_zip_next (wpAny_call_entry F.slot_zip_next hT F.entry_zip_next (zipK_end (I.ok.hd hc) D off1 off2 hz hti hto h1 h2 p1 p2 ?_ fun g e kp he=>?_) (F.args_zip_next_1 _))))
  ·rcases he with h | h
   ·exact .inl (by simp;lia)
   ·exact .inr (by simp;lia)
  ·obtain⟨o,ho,hcl⟩:=he
   refine wpAny_bind (wpAny_isInstance (T:="StopIteration") (b:=true) ⟨o,ho,hcl⟩ isSubtype_stop (wpAny_pure ⟨rfl,?_⟩))
   refine I.turnedL (t':=s.toks) (ch:=[z,ti,to,i1,i2]) hf fun b o nb e=>?_
   simp only[List.mem_cons,List.not_mem_nil,or_false,not_or]at nb
   exact kp b o nb.1 nb.2.2.1 nb.2.2.2.1 nb.2.2.2.2 e
 self:=fun _ _ _ _ _ st h=>wpAny_pyIter_zip st.1 h
theorem za_new(n:Addr):ZA (n+4) (n+2) (n+3) n (n+1)where
 a1:=Nat.ne_of_lt (Nat.add_lt_add_left (by decide) n)
 a2:=Nat.ne_of_lt (Nat.add_lt_add_left (by decide) n)
 a3:=Nat.ne_of_lt (Nat.lt_add_of_pos_right (by decide))
 a4:=Nat.ne_of_lt (Nat.add_lt_add_left (by decide) n)
 a5:=Nat.ne_of_lt (Nat.add_lt_add_left (by decide) n)
 a6:=Nat.ne_of_gt (Nat.lt_add_of_pos_right (by decide))
 a7:=Nat.ne_of_gt (Nat.add_lt_add_left (by decide) n)
 a8:=Nat.ne_of_gt (Nat.lt_add_of_pos_right (by decide))
 a9:=Nat.ne_of_gt (Nat.add_lt_add_left (by decide) n)
 a10:=Nat.ne_of_lt (Nat.lt_add_of_pos_right (by decide))
noncomputable def iZip(b1 b2:Bool)(K:PySem.W.Frag)(ta:TA):TI:=fun σ H R=>ta σ H fun vs H1=>∃ l1 l2,vs=[.ref l1,.ref l2]/\(∃ xs,SqB b1 K H1 l1 xs)/\(∃ ys,SqB b2 K H1 l2 ys)/\R (Itz K b1 b2 l1 l2) H1
theorem pi_zip{X:Cx}{es:List Expr}{kk:Nat}{tpos:Pos}(b1 b2:Bool){a b:Expr}{ta:TA}{p pos:Pos}(hg:Gl X "zip")(hm:X.mg "zip" = none)(ha:PA X [a,b] ta)(hs:starEach [a,b] X.env=[(false,eval a X.env),(false,eval b X.env)]:=by rfl)(hs2:starEach [b] X.env=[(false,eval b X.env)]:=by rfl) :
  PI X (.Tuple es kk tpos) (.Call (.Name "zip" p) [a,b] [] pos) (iZip b1 b2 X.K ta):=by
 intro pins s σ H R I h
 refine Call_ (ld_blt I hg hm boot_zip (PyProof.Rows.callWith_type1 (thn (ha pos pins s σ H _ I h) fun us s1 ⟨vs,H1,I1,r1,q1⟩=>?_) (by rw[hs,hs2]) (by rw[hs2];rfl)))
 obtain⟨l1,l2,e,⟨xs,q1⟩,⟨ys,q2⟩,q⟩:=q1
 subst e
 obtain⟨u,u',rfl,rx,ry⟩:=vals2 r1
 cases rx
 cases ry
 obtain⟨us,_,p1,_⟩:=I1.seqB q1
 obtain⟨ws,_,p2,_⟩:=I1.seqB q2
 have z1:(s1.heap.push (itO b1 l1)).objs.size=s1.heap.objs.size+1:=Heap.size_push ..
 have z2:(zK2 s1.heap b1 b2 l1 l2).objs.size=s1.heap.objs.size+2:=by rw[Heap.size_push,z1]
 have z3:(zK3 s1.heap b1 b2 l1 l2).objs.size=s1.heap.objs.size+3:=by rw[Heap.size_push,z2]
 have z4:(zK4 s1.heap b1 b2 l1 l2).objs.size=s1.heap.objs.size+4:=by rw[Heap.size_push,z3]
 have g5:(zK5 s1.heap b1 b2 l1 l2).get? (zK4 s1.heap b1 b2 l1 l2).objs.size=some _:=Heap.get?_push_size _ rfl
 have g4:(zK5 s1.heap b1 b2 l1 l2).get? (zK3 s1.heap b1 b2 l1 l2).objs.size=some _:=Heap.get?_push_of_some _ (Heap.get?_push_size _ rfl)
 have g3:(zK5 s1.heap b1 b2 l1 l2).get? (zK2 s1.heap b1 b2 l1 l2).objs.size=some _:=Heap.get?_push_of_some _ (Heap.get?_push_of_some _ (Heap.get?_push_size _ rfl))
 have g2:ItK b2 (zK5 s1.heap b1 b2 l1 l2) (s1.heap.push (itO b1 l1)).objs.size l2 0:=(ItK.new (b:=b2) (l:=l2) (s1.heap.push (itO b1 l1))).to fun o e=>Heap.get?_push_of_some _ (Heap.get?_push_of_some _ (Heap.get?_push_of_some _ e))
 have g1:ItK b1 (zK5 s1.heap b1 b2 l1 l2) s1.heap.objs.size l1 0:=(ItK.new (b:=b1) (l:=l1) s1.heap).to fun o e=>Heap.get?_push_of_some _ (Heap.get?_push_of_some _ (Heap.get?_push_of_some _ (Heap.get?_push_of_some _ e)))
 rw[z2,z3,z4]at g5
 rw[z1,z2]at g3
 rw[z3]at g4
 rw[z1]at g2
 refine callType_new F.called_zip (by decide) (F.typeCall_zip_2 _ _) (F.newCall_zip_2 _ _) (fun obj=>F.args_object_init_3 obj _ _) F.entry_zip_new (zipK_new b1 b2 l1 l2 us.toArray ws.toArray) ⟨p1,p2,?_⟩
 show _/\_
 rw[z4]
 have kp:∀ c o,s1.heap.get? c=some o->(zK5 s1.heap b1 b2 l1 l2).get? c=some o:=fun c o x=>Heap.get?_push_of_some _ (Heap.get?_push_of_some _ (Heap.get?_push_of_some _ (Heap.get?_push_of_some _ (Heap.get?_push_of_some _ x))))
 refine⟨⟨_,g5,rfl⟩,wpAny_pyIter_zip g5 ⟨s1.heap.objs.size+4,_,_,_,H1,rfl,I1.kept (t':=s1.toks) kp,turn_zip b1 b2 _ (s1.heap.objs.size+2) (s1.heap.objs.size+3) s1.heap.objs.size (s1.heap.objs.size+1) l1 l2 (za_new _),⟨g5,g3,⟨_,_,g4⟩,g1,g2⟩,fun b hb=>?_,q⟩⟩
 have le:s1.heap.objs.size<=b:=by
  simp only[List.mem_cons,List.not_mem_nil,or_false]at hb
  rcases hb with e | e | e | e | e
  ·rw[e];exact Nat.le_add_right _ 4
  ·rw[e];exact Nat.le_add_right _ 2
  ·rw[e];exact Nat.le_add_right _ 3
  ·rw[e];exact Nat.le_refl _
  ·rw[e];exact Nat.le_add_right _ 1
 exact I1.fpOk le (I1.hok.fresh le)
open PySem PySem.W PyProof.Rows Srt
section
variable{X:Cx}{pins:List (Addr×Obj)}{σ:St}{H:Hp}{s:Shared}{a:Addr}{y v:V}{u r:Value}{A:Around}{E:Value->Shared->Prop}
theorem d_set{H':Hp}{Q:Unit->Shared->Prop}(hu:A.units<cLine)(I:Inv X pins σ H s)(g:DPut H a y v H')(ry:RelV y u)(rv:RelV v r)(h:∀ s',Inv X pins σ H' s'->Q () s'):wpAny (model X.prog X.w) A (dictSet a u r) Q E s:=by
 rcases g with⟨kvs,k,e,ey,l,eH⟩ |⟨kvs,k,b,e,ey,eb,l,eH⟩
 ·subst ey eH
  obtain⟨z,hd,vs,rel,dd⟩:=dk_of I.hok e
  have hz:vs.length<=sizeLine:=by rw[<- rel.length];exact z
  have hl:(putK kvs k v).length<=sizeLine:=by have:=length_putK kvs k v;lia
  refine wpAny_dictSet_pairs (hsz:=hz) (kV_is ry) dd fun h' dd' hs=>h _ ?_
  have he:∃ q,h'.get? a=some q:=let ⟨q,_,_,hq,_⟩:=dd';⟨q,hq⟩
  exact d_write I (by rw[e];exact True.intro) hs he (dk_new hl hd (rel.put k rv) dd')
 ·subst ey eH
  cases(show u=Value.ref b from ry)
  obtain⟨z,hd,xs,rel,dd⟩:=dt_of I.hok e
  have hz:xs.length<=sizeLine:=by rw[<- Paired.length rel];exact z
  have hl:(putK kvs k v).length<=sizeLine:=by have:=length_putK kvs k v;lia
  refine wpAny_dictSet_heap (hsz:=hz) (knd:=tupleKind (mixKind X.prog X.w)) hu (key_of I.hok eb) dd fun h' dd' hs=>h _ ?_
  obtain⟨q,es,ep,hq,h2,h3,h4,_,h5⟩:=dd'
  refine d_write I (by rw[e];exact True.intro) hs ⟨q,hq⟩ ⟨hl,hd,_,(rel.put k eb rv).keeps fun c ys ec=>?_,q,es,ep,hq,h2,h3,h4,h5⟩
  rw[upd_ne (ne_of ec e (fun z=>nomatch z))]
  exact ec
theorem Inv.track{D:Addr}{ob:HO}(I:Inv X pins σ H s)(f:FpOk X pins H D)(new:ObjOk X.prog X.w (upd H D ob) s.heap D ob):Inv X pins σ (upd H D ob) s:=by
 have hn:H D=none:=f.1
 have:=I.step (h':=s.heap) (H':=upd H D ob) (g':=s.gens) (t':=s.toks) (d':=s.drawn) (ch:=[D]) (fun b hb=>?_) (fun b o _ _ _ e _=>e) (fun b o _ _ _ e _=>⟨o.slots,e⟩) (fun b o nb _ n=>by
  rw[upd_ne (fun z=>nb (by simp[z]))];exact n) (fun b o _ e=>⟨o,e⟩) (fun b xs e=>by rw[upd_ne (ne_of_none e hn)];exact e) (fun b o u e=>by rw[upd_ne (ne_of_none e hn)];exact e) (fun b ps e=>⟨#[],by rw[upd_ne (ne_of_none e hn),e];simp⟩) (fun m hm=>hm) (fun b u e=>?_) I.bare
 ·exact this
 ·have e:b=D:=by simpa using hb
  subst e
  obtain⟨_,f1,_,f3,f4,f5⟩:=f
  exact⟨f3,f1,f4,f5⟩
 ·by_cases hb:b=D
  ·subst hb;rw[upd_same]at e;cases e;exact new
  ·rw[upd_ne hb]at e
   exact(I.hok b u e).stay (fun c v _ q=>q) (fun c q=>by rw[upd_ne (ne_of_none q hn)];exact q) fun c xs q=>by rw[upd_ne (ne_of_none q hn)];exact q
end
section
variable{prog:Program}{w:World}{A:Around}{R:Result->Shared->Prop}{s:Shared}
theorem dcompLoop{kx vx target iter:Expr}{ifs:List Expr}{scope:Scope}{pos:Pos}{it:Value}{D:Addr}{env:Env}(I:Nat->Shared->Prop)
  (turn:∀ n s,I n s->wpAny (model prog w) A (pyNext it) (fun r s₁=>match r with
   |none=>R (.ok .next) s₁
   |some v=>wpAny (model prog w) A (letOwnedTupleGo target it v) (fun _ s₁'=>wpAny (model prog w) A (assign target env v) (fun _ s₂ =>
     wpAny (model prog w) A (forIn ifs true fun c r=>if r=true then do let ok <- isTrue c env (eval c env);pure (ForInStep.yield ok)else pure (ForInStep.yield r)) (fun ok s₃ =>
      if ok=true then wpAny (model prog w) A (eval kx env) (fun kv s₄=>wpAny (model prog w) A (eval vx env) (fun vv s₅=>wpAny (model prog w) A (dictSet D kv vv) (fun _ s₆=>∃ m,m<n/\I m s₆) (fun _ _=>False) s₅) (fun _ _=>False) s₄) (fun _ _=>False) s₃
      else ∃ m,m<n/\I m s₃) (fun _ _=>False) s₂) (fun _ _=>False) s₁') (fun _ _=>False) s₁) (fun _ _=>False) s)
  (n:Nat) (h:I n s):codeAny (model prog w) A (.compLoop (.DictComp kx vx [⟨target,iter,ifs,0⟩] scope pos) 0 it (.ref D) env) R s:=by
 refine codeAny_loop rfl I (fun n s hI=>?_) n h
 show wpAny _ A ((compTurn (.DictComp kx vx [⟨target,iter,ifs,0⟩] scope pos) 0 it (.ref D) env).onRaise (fun x=>do noteFrame x env;theTreesLotGoes x)) _ _ s
 refine wpAny_noted ?_
 rw[compTurn_dict];refine wpAny_bind (wpAny_standAt (wpAny_bind (wpAny_mono (turn n s hI) (fun r s₁ h₁=>?_) fun _ _ h'=>h'.elim)))
 cases r with
 |none=>exact wpAny_pure h₁
 |some v =>
  refine wpAny_bind (wpAny_mono h₁ (fun _ s₁' h₁'=>?_) fun _ _ h'=>h'.elim);refine wpAny_bind (wpAny_mono h₁' (fun _ s₂ h₂=>wpAny_bind (wpAny_mono h₂ (fun ok s₃ h₃=>?_) fun _ _ h'=>h'.elim)) fun _ _ h'=>h'.elim)
  cases ok with
  |false=>exact wpAny_pure ⟨rfl,h₃⟩
  |true =>
   exact wpAny_bind (wpAny_bind (wpAny_mono h₃ (fun kv s₄ h₄=>wpAny_bind (wpAny_holding (wpAny_mono h₄ (fun vv s₅ h₅=>wpAny_bind (wpAny_standAt (wpAny_holding (wpAny_mono h₅ (fun _ s₆ h₆=>wpAny_pure ⟨rfl,h₆⟩) fun _ _ h'=>h'.elim)))) fun _ _ h'=>h'.elim))) fun _ _ h'=>h'.elim))
end
noncomputable def dcompTurns(J:It)(cap:List (Option Nat))(σ:St)(H1:Hp)(D:Addr)(Q:VK)(g:TG)(tc:TT)(tk tv:TE):Prop:=∃ (n:Nat) (P:Nat->Hp->Prop),P 0 H1 /\
 ∀ i H,i<=n->P i H->(J.stop i H/\Q (.ref D) H) \/
  (i<n/\J.go i H/\∀ x H',J.yld i H x H'->g x (capt cap σ) H' fun σ2 H2=>Kp (capt cap σ) σ2/\tc σ2 H2 fun b H3=>if b=true then tk σ2 H3 fun k H4=>tv σ2 H4 fun y H5=>∃ H6,DPut H5 D k y H6/\P (i+1) H6 else P (i+1) H3)
noncomputable def dEmp:Bool->HO
 |true=>.dT []
 |false=>.dK []
noncomputable def tDComp(t:Bool)(cap:List (Option Nat))(wi:TI)(g:TG)(tc:TT)(tk tv:TE):TE:=fun σ H Q=>wi σ H fun J H1=>∀ D,H1 D=none->dcompTurns J cap σ (upd H1 D (dEmp t)) D Q g tc tk tv
section
variable{X:Cx}{kx vx tg iter:Expr}{ifs:List Expr}{scope:Scope}{pos:Pos}{N':List Str}{cap:List (Option Nat)}{wi:TI}{g:TG}{tc:TT}{tk tv:TE}
theorem dcomp_run(t:Bool)(hu:X.A.units<cLine)(hc:X.calm=true)(S:CompScope N' cap X.N X.env.scope scope)(hi:PI X tg iter wi)(hg:∀ C s H fp,PG (cxIn X N' scope C s H fp) tg g)
  (ht:∀ C s H fp,PF (cxIn X N' scope C s H fp) ifs tc) (hk:∀ C s H fp,PE (cxIn X N' scope C s H fp) kx tk) (he:∀ C s H fp,PE (cxIn X N' scope C s H fp) vx tv)
  {pins:List (Addr×Obj)}{s:Shared}{σ:St}{H:Hp}{Q:VK} (I:Inv X pins σ H s) (h:tDComp t cap wi g tc tk tv σ H Q) :
  wpAny (model X.prog X.w) X.A (eval iter X.env) (fun x s₁=>wpAny (model X.prog X.w) X.A (pyIter x) (fun it s₂=>wpAny (model X.prog X.w) X.A newDict (fun acc s₃ =>
   wpAny (model X.prog X.w) X.A (newFunctionEnv scope X.env.globals (closCl X.env.cells scope.names []) [] X.env.qual none .none (some X.env)) (fun cenv s₄ =>
    codeAny (model X.prog X.w) X.A (.compStart (.DictComp kx vx [⟨tg,iter,ifs,0⟩] scope pos) 0 it acc { cenv with scope:=relabel scope X.env }) (CompEnd X pins σ Q acc cenv.locals) s₄) X.xe s₃) X.xe s₂) X.xe s₁) X.xe s:=by
 refine thn (hi pins s σ H _ I h) fun v s1 h1=>thn h1 fun itv s2 h2=>?_
 obtain⟨it,fp,tn,J,H2,e,I2,T,st2,f2,turns⟩:=h2
 subst e
 obtain⟨n,P,p0,turn⟩:=turns s2.heap.objs.size (I2.hok.fresh (Nat.le_refl _))
 refine wpAny_newObj_type (wpAny_newFunctionEnv S.nocell (by intro y hy;simp at hy) (fun h₁ hns₁ hsb₁=>?_) S.kind)
 dsimp only at hns₁ hsb₁ ⊢
 generalize hHp:s2.heap.push { cls:=.type "dict",dict:=none,data:=.dict #[] } = Hq at hns₁ hsb₁ ⊢
 have hC:Hq.objs.size=s2.heap.objs.size+1:=by rw[<- hHp,Heap.size_push]
 have hDC:s2.heap.objs.size≠Hq.objs.size:=by rw[hC];exact Nat.ne_of_lt (Nat.lt_succ_self _)
 have hCle:s2.heap.objs.size<=Hq.objs.size:=by rw[hC];exact Nat.le_succ _
 have old:∀ b o,s2.heap.get? b=some o->h₁.get? b=some o:=fun b o e =>
  hsb₁.extBut b o (by rw[hC];exact Nat.ne_of_lt (Nat.lt_succ_of_lt (Heap.lt_size e))) (Heap.get?_push_of_some _ (hHp▸Heap.get?_push_of_some _ e))
 have hacc:h₁.get? s2.heap.objs.size=some { cls:=.type "dict",dict:=none,data:=.dict #[] }:=hsb₁.extBut _ _ hDC (Heap.get?_push_of_some _ (hHp▸Heap.get?_push_size _ rfl))
 have hfo:∀ b∈fp,∃ o,s2.heap.get? b=some o:=fun b hb=>let ⟨o,e,_⟩:=T.obj _ _ st2 b hb;⟨o,e⟩
 have st4:tn 0 h₁:=T.keep _ _ _ st2 fun b _ o e=>old b o e
 let D:Addr:=s2.heap.objs.size
 let C:Addr:=Hq.objs.size
 let Y:Cx:=cxIn X N' scope C s2 H2 fp
 have hDfp:D∉fp:=fun hb=>by
  obtain⟨o,e⟩:=hfo D hb
  exact Nat.lt_irrefl _ (Heap.lt_size e)
 have stat:∀ {H':Hp},(∀ b∈fp,H' b=none)->∀ b∈fp,FpOk Y pins H' b:=fun {H'} hn b hb=>by
  obtain⟨f0,f1,fx,f3,f4,f5⟩:=f2 b hb
  obtain⟨o,e⟩:=hfo b hb
  refine⟨hn b hb,fun z=>?_,fun z=>?_,.inl hb,fun x c e=>f4 x c (closCl_sound _ _ (S.clos I2) (fun y c e=>by simp at e) x c e),f5⟩
  ·have h1:=Nat.lt_of_lt_of_le (Heap.lt_size e) hCle
   have z:b=Hq.objs.size:=z
   rw[z]at h1
   exact Nat.lt_irrefl _ h1
  ·rcases List.mem_cons.mp (I2.stkSub b z)with e | e
   ·exact f1 e
   ·exact fx e
 have loop:∀ s₃:Shared,s₃ = { s2 with heap:=h₁,toks:=s2.toks+([]:List (Str×Value)).length } ->
   codeAny (model X.prog X.w) X.A (.compLoop (.DictComp kx vx [⟨tg,iter,ifs,0⟩] scope pos) 0 (.ref it) (.ref s2.heap.objs.size) (compEnvC scope (closCl X.env.cells scope.names []) Hq.objs.size X.env))
    (CompEnd X pins σ Q (.ref s2.heap.objs.size) Hq.objs.size) s₃:=by
  rintro s₃ rfl
  have inF:∀ {pl:List (Addr×Obj)}{p:Addr×Obj},p∈pl->p∈Y.pn++(pins++pl):=fun {pl p} hp=>List.mem_append_right _ (List.mem_append_right _ hp)
  refine dcompLoop (fun m s'=>∃ i H',m=n-i/\i<=n/\Inv Y pins (capt cap σ) H' s'/\tn i s'.heap/\(∀ b∈fp,H' b=none)/\P i H') ?_ n ?_
  ·rintro m s3 ⟨i,H3,rfl,hin,I3,st3,fr3,p3⟩
   rcases turn i H3 hin p3 with⟨stop,q⟩ |⟨hlt,go,step⟩
   ·refine thn (T.done Y rfl rfl rfl hc i _ s3 _ H3 (fun _ _=>False) I3 (stat fr3) st3 stop) fun r s4 ⟨hr,I4⟩=>?_
    subst hr
    have IX:Inv X pins σ H3 s4:=I2.call' (ch:=fp) I4.os I4.base I4.hok I4.bare fun b hb=>by
     obtain⟨f0,f1,fx,f3,f4,f5⟩:=f2 b hb
     exact⟨f3,f1,f4,f5⟩
    obtain⟨m',hm',_⟩:=I4.loc
    exact⟨.ref D,_,IX,rfl,q,⟨m',hm'⟩,I2.fpOk hCle I4.free⟩
   ·refine thn (T.item Y rfl rfl rfl hc i _ s3 _ H3 (fun _ _=>False) I3 (stat fr3) st3 go) fun r s4 ⟨u,hr,h4⟩=>?_
    subst hr
    refine thn h4 fun _ s5 ⟨x,H5,I5,r5,y5,st5,fr5⟩=>?_
    have I5':=I5.pinned (stat fr5) (T.obj _ _ st5)
    refine thn (hg C s2 H2 fp _ s5 _ H5 x u _ I5' r5 (step x H5 y5)) fun _ s6 ⟨σ6,H6,I6,kp,q6⟩=>?_
    refine thn (ht C s2 H2 fp _ s6 σ6 H6 _ I6 q6) fun b s7 ⟨H7,I7,q7⟩=>?_
    cases b with
    |false =>
     rw[if_neg Bool.false_ne_true]at q7 ⊢
     refine⟨n-(i+1),Nat.sub_succ_lt_self n i hlt,i+1,H7,rfl,hlt,I7.unpinned.weak kp.length kp.get,?_,fun b hb=>?_,q7⟩
     ·exact T.keep _ _ _ st5 fun b hb o e=>(I7.pin (b,o) (inF (mem_pinsAt hb e))).1
     ·obtain⟨o,e,d⟩:=T.obj _ _ st5 b hb
      exact(I7.pin (b,o) (inF (mem_pinsAt hb e))).2.1
    |true =>
     rw[if_pos rfl]at q7 ⊢
     refine thn (hk C s2 H2 fp _ s7 σ6 H7 _ I7 q7) fun kv s8 ⟨k,H8,I8,r8,q8⟩=>thn (he C s2 H2 fp _ s8 σ6 H8 _ I8 q8) fun yv s9 ⟨y,H9,I9,r9,H10,dp,q9⟩=>?_
     refine d_set (X:=Y) hu I9 dp r8 r9 fun s10 I10=>?_
     refine⟨n-(i+1),Nat.sub_succ_lt_self n i hlt,i+1,H10,rfl,hlt,I10.unpinned.weak kp.length kp.get,?_,fun b hb=>?_,q9⟩
     ·exact T.keep _ _ _ st5 fun b hb o e=>(I10.pin (b,o) (inF (mem_pinsAt hb e))).1
     ·obtain⟨o,e,d⟩:=T.obj _ _ st5 b hb
      exact(I10.pin (b,o) (inF (mem_pinsAt hb e))).2.1
  ·have I4:=cxIn_inv (s4:={ s2 with heap:=h₁,toks:=s2.toks+([]:List (Str×Value)).length }) S I2 hCle f2 hfo rfl rfl old hns₁ hacc (Nat.le_refl _) hDC fun v z=>by cases z
   obtain⟨_,pD1,pD2,pD3,_⟩:=I4.pin (D,{ cls:=.type "dict",dict:=none,data:=.dict #[] }) (List.mem_append_right _ (List.mem_append_right _ (List.mem_singleton.mpr rfl)))
   have I5:Inv Y pins (capt cap σ) H2 { s2 with heap:=h₁,toks:=s2.toks+([]:List (Str×Value)).length }:=I4.pins_of fun p hp=>I4.pin p (List.mem_append_right _ (List.mem_append_left _ hp))
   have fD:FpOk Y pins H2 D:=⟨pD1,pD2,pD3,.inr (Nat.le_refl _),fun x c e z=>by
    obtain⟨v,q⟩:=I2.cell x c (closCl_sound _ _ (S.clos I2) (fun y c e=>by simp at e) x c e)
    have h1:=q.lt
    rw[show c=s2.heap.objs.size from z]at h1
    exact Nat.lt_irrefl _ h1,fun p hp z=>by
    have h1:=Heap.lt_size (I2.pin p hp).1
    rw[show p.1=s2.heap.objs.size from z]at h1
    exact Nat.lt_irrefl _ h1⟩
   have nsys:(D == sysModules)=false:=by
    have:=I2.big
    exact Bool.eq_false_iff.mpr fun z=>by
     have e:D=sysModules:=by simpa using z
     have h1:sysModules<D:=this
     rw[<- e]at h1
     exact Nat.lt_irrefl _ h1
   have new:ObjOk X.prog X.w (upd H2 D (dEmp t)) h₁ D (dEmp t):=by
    cases t
    ·exact⟨Nat.zero_le _,nsys,[],.nil,_,#[],0,hacc,⟨rfl,rfl,rfl⟩,rfl,fun e he=>by simp at he,.nil,List.nodup_nil⟩
    ·exact⟨Nat.zero_le _,nsys,[],.nil,_,#[],0,hacc,⟨rfl,rfl,rfl⟩,rfl,rfl,List.nodup_nil⟩
   refine⟨0,upd H2 D (dEmp t),rfl,Nat.zero_le _,I5.track fD new,st4,fun b hb=>?_,p0⟩
   rw[upd_ne (fun z=>hDfp (by rw[<- z];exact hb))]
   exact(f2 b hb).1
 exact codeAny_compStart_dict (loop _ rfl) (T.self X.A 0 _ _ _ st4 (loop _ rfl))
end
open PySem PySem.W PyProof.Rows Srt
section
variable{X:Cx}
theorem bools_at:∀ {bs:List Bool}{us:List Value},Vals (bs.map V.bl) us->∀ (i:Nat) (v:Value),us[i]?=some v->∃ b,bs[i]?=some b/\v = .bool b
 |[],_,.nil,i,v,h=>by simp at h
 |b :: bs,_,.cons r t,0,v,h=>by
  simp at h
  subst h
  exact⟨b,rfl,r⟩
 |b :: bs,_,.cons r t,i+1,v,h=>by
  obtain⟨c,e,q⟩:=bools_at t i v (by simpa using h)
  exact⟨c,by simpa using e,q⟩
theorem call_all(hc:X.calm=true):CallR X (.builtin "all") (fun xs H Q=>∃ (l:Addr) (bs:List Bool),xs=[V.ref l]/\SqL X.K H l (bs.map V.bl)/\Q (.bl (bs.all id)) H):=by
 intro pins s σ H xs us Q I r h
 obtain⟨l,bs,rfl,hq,q⟩:=h
 obtain⟨u,rfl,rx⟩:=vals1 r
 cases rx
 obtain⟨its,r',pl,hz⟩:=I.list hq
 have len:its.length=bs.length:=by rw[<- r'.length,List.length_map]
 have hl:=pl.isList
 have hlt:l<s.heap.objs.size:=by obtain⟨_,e,_⟩:=hl;exact Heap.lt_size e
 refine call_all_walk (wpAny_pyIter_list hl ⟨s.heap.objs.size,[s.heap.objs.size,l],[s.heap.objs.size],its.toArray.size,_,_,fun i=>(bs[i]?).getD true,rfl,Walks.list (A:=X.A.in1) (show X.A.handled=none from I.ok.hd hc) _ l (Nat.ne_of_lt hlt) its.toArray,⟨⟨_,Heap.get?_push_size _ rfl,rfl,rfl⟩,hl.push _⟩,fun i v s' Q' E' hP hQ=>?_,fun h' tk hk=>?_⟩)
 ·obtain⟨b,e,rfl⟩:=bools_at r' i v (by simpa using hP)
  simp only[e,Option.getD_some]at hQ
  exact wpAny_truthy_bool hQ
 ·have e:((List.range its.toArray.size).all fun i=>(bs[i]?).getD true)=bs.all id:=by rw[List.size_toArray,len];exact LSm.range_all bs
  rw[e]
  exact⟨.bl _,H,I.kept (t':=tk) (LSm.kept_iter hk),rfl,q⟩
theorem call_any(hc:X.calm=true):CallR X (.builtin "any") (fun xs H Q=>∃ (l:Addr) (bs:List Bool),xs=[V.ref l]/\SqL X.K H l (bs.map V.bl)/\Q (.bl (bs.any id)) H):=by
 intro pins s σ H xs us Q I r h
 obtain⟨l,bs,rfl,hq,q⟩:=h
 obtain⟨u,rfl,rx⟩:=vals1 r
 cases rx
 obtain⟨its,r',pl,hz⟩:=I.list hq
 have len:its.length=bs.length:=by rw[<- r'.length,List.length_map]
 have hl:=pl.isList
 have hlt:l<s.heap.objs.size:=by obtain⟨_,e,_⟩:=hl;exact Heap.lt_size e
 refine call_any_walk (wpAny_pyIter_list hl ⟨s.heap.objs.size,[s.heap.objs.size,l],[s.heap.objs.size],its.toArray.size,_,_,fun i=>(bs[i]?).getD false,rfl,Walks.list (A:=X.A.in1) (show X.A.handled=none from I.ok.hd hc) _ l (Nat.ne_of_lt hlt) its.toArray,⟨⟨_,Heap.get?_push_size _ rfl,rfl,rfl⟩,hl.push _⟩,fun i v s' Q' E' hP hQ=>?_,fun h' tk hk=>?_⟩)
 ·obtain⟨b,e,rfl⟩:=bools_at r' i v (by simpa using hP)
  simp only[e,Option.getD_some]at hQ
  exact wpAny_truthy_bool hQ
 ·have e:((List.range its.toArray.size).any fun i=>(bs[i]?).getD false)=bs.any id:=by rw[List.size_toArray,len];exact LSm.range_any bs
  rw[e]
  exact⟨.bl _,H,I.kept (t':=tk) (LSm.kept_iter hk),rfl,q⟩
variable{a b c d:Expr}{ta tb tc td:TE}{pos:Pos}
theorem eqT{A:Around}{s:Shared}{p q:Addr}{ks ns:List Int}(hu:A.units<cLine)(x:TupI s.heap (.ref p) ks)(y:TupI s.heap (.ref q) ns):SeqAt.EqAt A s (.ref p) (.ref q) (decide (ks=ns)):=by
 by_cases e:p=q
 ·subst e
  rw[x.inj y,decide_eq_true rfl]
  exact SeqAt.EqAt.same _
 ·obtain⟨a,o,its,n,e1,g1,c1,d1,p1⟩:=x
  obtain⟨a',o',its',n',e2,g2,c2,d2,p2⟩:=y
  cases e1
  cases e2
  have l1:ks.length=its.size:=by rw[p1.length];simp
  have l2:ns.length=its'.size:=by rw[p2.length];simp
  have at1:∀ {ks:List Int}{us:List Value} (_:IntsV ks us) (j:Nat) (h:j<us.length) (h2:j<ks.length),∃ t,us[j]=Value.int ks[j] t:=by
   intro ks us hp
   induction hp with
   |nil=>intro j h;simp at h
   |cons r _ ih =>
    intro j h h2
    cases j with
    |zero=>exact r
    |succ j=>exact ih j (by simpa using h) (by simpa using h2)
  refine SeqAt.EqAt.of_refs e ?_
  have key:=SeqAt.RcAt.tuples (A:=A) (s:=s) (e:=fun j=>decide (ks[j]?=ns[j]?)) (show s.heap.IsTuple p its from⟨o,g1,c1,n,d1⟩) (show s.heap.IsTuple q its' from⟨o',g2,c2,n',d2⟩) hu fun j h1 h2=>by
   obtain⟨t,q1⟩:=at1 p1 j (by simpa using h1) (by lia)
   obtain⟨t',q2⟩:=at1 p2 j (by simpa using h2) (by lia)
   have q1':its[j]=Value.int (ks[j]'(by lia)) t:=by rw[<- q1];simp
   have q2':its'[j]=Value.int (ns[j]'(by lia)) t':=by rw[<- q2];simp
   rw[q1',q2']
   have e:decide (ks[j]?=ns[j]?)=(ks[j]'(by lia) == ns[j]'(by lia)):=by
    rw[List.getElem?_eq_getElem (by lia),List.getElem?_eq_getElem (by lia),Bool.beq_eq_decide_eq]
    simp
   rw[e]
   exact SeqAt.EqAt.int_int _ _ _ _
  have fin:((List.range (min its.size its'.size)).all (fun j=>decide (ks[j]?=ns[j]?)) && its.size == its'.size)=decide (ks=ns):=by
   rw[Bool.eq_iff_iff,Bool.and_eq_true,List.all_eq_true,decide_eq_true_eq,beq_iff_eq]
   constructor
   ·rintro⟨h1,h2⟩
    apply List.ext_getElem?
    intro i
    by_cases hi:i<ks.length
    ·exact of_decide_eq_true (h1 i (List.mem_range.mpr (by lia)))
    ·rw[List.getElem?_eq_none (by lia),List.getElem?_eq_none (by lia)]
   ·rintro rfl
    exact⟨fun i _=>decide_eq_true rfl,by lia⟩
  rw[fin]at key
  exact key
end
open PySem PySem.W PyProof.Rows Srt
noncomputable abbrev TupsAt(H:Hp)(as:List Addr)(ks:List (List Int)):Prop:=Paired (fun a k=>H a=some (.tup (List.map V.int k))) as ks
section
variable{X:Cx}
theorem refs_of:∀ {as:List Addr}{us:List Value},Vals (as.map V.ref) us->us=as.map Value.ref
 |[],_,.nil=>rfl
 |a :: as,_,.cons r t=>by rw[show _=Value.ref a from r,refs_of t];rfl
theorem tups_mem{H:Hp}{as:List Addr}{ks:List (List Int)}(h:TupsAt H as ks):∀ a∈as,∃ k:List Int,H a=some (.tup (k.map V.int)):=by
 induction h with
 |nil=>intro a ha;cases ha
 |cons r _ ih =>
  intro a ha
  rcases List.mem_cons.mp ha with e | e
  ·rw[e];exact⟨_,r⟩
  ·exact ih a e
end
inductive Dt where
 |non | bl (b:Bool) | int (i:Int) | str (x:Str) | lst (ds:List Dt) | tup (ds:List Dt)
noncomputable def Dat(H:Hp):Nat->V->Dt->Prop
 | _,v,.non=>v = .non
 | _,v,.bl b=>v = .bl b
 | _,v,.int i=>v = .int i
 | _,v,.str x=>v = .str x
 | 0,_,.lst _=>False
 | 0,_,.tup _=>False
 |n+1,v,.lst ds=>∃ a xs,v = .ref a/\xs.length<=1000/\H a=some (.lst xs)/\Paired (Dat H n) xs ds
 |n+1,v,.tup ds=>∃ a xs,v = .ref a/\xs.length<=1000/\H a=some (.tup xs)/\Paired (Dat H n) xs ds
open PySem PyProof.Rows
section
variable{K:PySem.W.Frag}{a:Addr}{xs:List V}{g:TG}{tc:TT}{te:TE}{cap:List (Option Nat)}{σ:St}{H1:Hp}{Q:VK}
theorem comp_tup(P:Nat->List V->Hp->Prop)(hz:xs.length<=sizeLine)(p0:P 0 [] H1)(hl:∀ i ys H,i<=xs.length->P i ys H->SqT K H a xs)
  (hs:∀ i x ys H,xs[i]?=some x->P i ys H->g x (capt cap σ) H fun σ2 H2=>Kp (capt cap σ) σ2/\tc σ2 H2 fun b H3=>if b=true then te σ2 H3 fun y H4=>P (i+1) (ys++[y]) H4 else P (i+1) ys H3)
  (hd:∀ ys H,ys.length<=xs.length->P xs.length ys H->∀ D,H D=none->Q (.ref D) (upd H D (.lst ys))):compTurns (Itt K a) cap σ H1 Q g tc te:=by
 refine⟨xs.length,P,hz,p0,fun i ys H yl il p=>?_⟩
 have q:=hl i ys H il p
 by_cases hlt:i<xs.length
 ·refine .inr ⟨hlt,⟨xs,xs[i],q,by simp[hlt]⟩,fun x H' y=>?_⟩
  obtain⟨e,y⟩:=y
  subst e
  exact hs i x ys _ (y xs q) p
 ·have e:i=xs.length:=by lia
  subst e
  exact .inl ⟨⟨xs,q,Nat.le_refl _⟩,hd ys H yl p⟩
theorem comp_list(P:Nat->List V->Hp->Prop)(hz:xs.length<=sizeLine)(p0:P 0 [] H1)(hl:∀ i ys H,i<=xs.length->P i ys H->SqL K H a xs)
  (hs:∀ i x ys H,xs[i]?=some x->P i ys H->g x (capt cap σ) H fun σ2 H2=>Kp (capt cap σ) σ2/\tc σ2 H2 fun b H3=>if b=true then te σ2 H3 fun y H4=>P (i+1) (ys++[y]) H4 else P (i+1) ys H3)
  (hd:∀ ys H,ys.length<=xs.length->P xs.length ys H->∀ D,H D=none->Q (.ref D) (upd H D (.lst ys))):compTurns (Itl K a) cap σ H1 Q g tc te:=by
 refine⟨xs.length,P,hz,p0,fun i ys H yl il p=>?_⟩
 have q:=hl i ys H il p
 by_cases hlt:i<xs.length
 ·refine .inr ⟨hlt,⟨xs,xs[i],q,by simp[hlt]⟩,fun x H' y=>?_⟩
  obtain⟨e,y⟩:=y
  subst e
  exact hs i x ys _ (y xs q) p
 ·have e:i=xs.length:=by lia
  subst e
  exact .inl ⟨⟨xs,q,Nat.le_refl _⟩,hd ys H yl p⟩
theorem comp_range{lo:Int}{n:Nat}(P:Nat->List V->Hp->Prop)(hz:n<=sizeLine)(p0:P 0 [] H1)
  (hs:∀ i ys H,i<n->P i ys H->g (.int (lo+i)) (capt cap σ) H fun σ2 H2=>Kp (capt cap σ) σ2/\tc σ2 H2 fun b H3=>if b=true then te σ2 H3 fun y H4=>P (i+1) (ys++[y]) H4 else P (i+1) ys H3)
  (hd:∀ ys H,ys.length<=n->P n ys H->∀ D,H D=none->Q (.ref D) (upd H D (.lst ys))):compTurns (Itr lo n) cap σ H1 Q g tc te:=by
 refine⟨n,P,hz,p0,fun i ys H yl il p=>?_⟩
 by_cases hlt:i<n
 ·refine .inr ⟨hlt,hlt,fun x H' y=>?_⟩
  obtain⟨e,y⟩:=y
  subst e y
  exact hs i ys _ hlt p
 ·have e:i=n:=by lia
  subst e
  exact .inl ⟨Nat.le_refl _,hd ys H yl p⟩
end
noncomputable def capB(cap:List (Option Nat))(N' N:List Str)(names:List (Str×NameKind)):Bool:=(List.range cap.length).all fun j=>match cap[j]? with
 |some (some i)=>(match N'[j]? with
  |some x=>decide (N[i]?=some x/\names.lookup x=some .free)
  |none=>false)
 | _=>true
theorem capB_ok{cap:List (Option Nat)}{N' N:List Str}{names:List (Str×NameKind)}(h:capB cap N' N names=true):∀ j∈List.range cap.length,match cap[j]? with
  |some (some i)=>match N'[j]? with
   |some x=>N[i]?=some x/\names.lookup x=some .free
   |none=>False
  | _=>True:=by
 intro j hj
 have z:=List.all_eq_true.mp h j hj
 revert z
 cases e1:cap[j]? with
 |none=>intro _;trivial
 |some o =>
  cases o with
  |none=>intro _;trivial
  |some i =>
   cases e2:N'[j]? with
   |none =>
    intro z
    dsimp only at z
    exact absurd z Bool.false_ne_true
   |some x =>
    intro z
    dsimp only at z
    exact of_decide_eq_true z
theorem op_inK{X:Cx}(K:PySem.W.Frag)(e:X.K=K):OpR X (compareOp .In) (rIn K false):=e▸op_in_seq
theorem pg_tupK{X:Cx}{pos:Pos}(K:PySem.W.Frag)(e:X.K=K){es:List Expr}{k:Nat}{t:TGs}{n:Nat}(hc:X.calm=true)(h:PGs X es t)
  (hn:(assignEach es X.env).length=n) (hst:(assignEach es X.env).findIdx? (·.1)=none):PG X (.Tuple es k pos) (gTup K n t):=e▸pg_tup hc h hn hst
theorem Paired.at{α β:Type}{F:α->β->Prop}:∀ {l₁:List α}{l₂:List β},Paired F l₁ l₂->∀ (i:Nat) (h1:i<l₁.length) (h2:i<l₂.length),F l₁[i] l₂[i]:=by
 intro l ks h
 induction h with
 |nil=>intro i h1;exact absurd h1 (Nat.not_lt_zero _)
 |cons h t ih =>
  intro i h1 h2
  cases i with
  |zero=>exact h
  |succ i=>exact ih i (Nat.lt_of_succ_lt_succ h1) (Nat.lt_of_succ_lt_succ h2)
theorem Same.new{q:Addr}{H:Hp}{o:HO}(h:H q=none):Same H (upd H q o):=fun b u e=>by rw[upd_ne (ne_of_none e h)];exact e
section
variable{K:PySem.W.Frag}{l1 l2:Addr}{xs ys:List V}{b1 b2:Bool}{g:TG}{tc:TT}{te:TE}{cap:List (Option Nat)}{σ:St}{H1:Hp}{Q:VK}
theorem comp_zip(P:Nat->List V->Hp->Prop)(hz:min xs.length ys.length<=sizeLine)(p0:P 0 [] H1)(hl:∀ i zs H,i<=min xs.length ys.length->P i zs H->SqB b1 K H l1 xs/\SqB b2 K H l2 ys)
  (hs:∀ i x y zs H T,xs[i]?=some x->ys[i]?=some y->P i zs H->H T=none->g (.ref T) (capt cap σ) (upd H T (.tup [x,y])) fun σ2 H2=>Kp (capt cap σ) σ2/\tc σ2 H2 fun b H3=>if b=true then te σ2 H3 fun y H4=>P (i+1) (zs++[y]) H4 else P (i+1) zs H3)
  (hd:∀ zs H,zs.length<=min xs.length ys.length->P (min xs.length ys.length) zs H->∀ D,H D=none->Q (.ref D) (upd H D (.lst zs))):compTurns (Itz K b1 b2 l1 l2) cap σ H1 Q g tc te:=by
 refine⟨min xs.length ys.length,P,hz,p0,fun i zs H yl il p=>?_⟩
 obtain⟨q1,q2⟩:=hl i zs H il p
 by_cases hlt:i<min xs.length ys.length
 ·have h1:i<xs.length:=by lia
  have h2:i<ys.length:=by omega
  refine .inr ⟨hlt,⟨xs,ys,xs[i],ys[i],q1,q2,by simp[h1],by simp[h2]⟩,fun v H' y=>?_⟩
  obtain⟨T,x,y,rfl,hT,rfl,f1,f2⟩:=y
  exact hs i x y zs _ T (f1 xs q1) (f2 ys q2) p hT
 ·have e:i=min xs.length ys.length:=by lia
  subst e
  exact .inl ⟨⟨xs,ys,q1,q2,by lia⟩,hd zs H yl p⟩
theorem for_zip{tb:TS}{D:Ends}{σ:St}{H:Hp}(Pv:Nat->St->Hp->Prop)(h0:Pv 0 σ H)(hl:∀ i σ H,i<=min xs.length ys.length->Pv i σ H->SqB b1 K H l1 xs/\SqB b2 K H l2 ys)
  (hs:∀ i x y σ H T,xs[i]?=some x->ys[i]?=some y->Pv i σ H->H T=none->g (.ref T) σ (upd H T (.tup [x,y])) fun σ2 H2=>tb { D with nx:=Pv (i+1),ct:=Pv (i+1),bk:=D.nx } σ2 H2) (hd:∀ σ H,Pv (min xs.length ys.length) σ H->D.nx σ H) :
  ∃ W:Nat->Nat->St->Hp->Prop,(∃ m,W 0 m σ H)/\∀ i m σ H,W i m σ H ->
   ((Itz K b1 b2 l1 l2).stop i H/\D.nx σ H)\/((Itz K b1 b2 l1 l2).go i H/\∃ N:St->Hp->Prop,(∀ σ' H',N σ' H'->∃ m',m'<m/\W (i+1) m' σ' H')/\∀ x H',(Itz K b1 b2 l1 l2).yld i H x H'->g x σ H' fun σ2 H2=>tb { D with nx:=N,ct:=N,bk:=D.nx } σ2 H2):=by
 refine⟨fun i m σ H=>m=min xs.length ys.length-i/\i<=min xs.length ys.length/\Pv i σ H,⟨min xs.length ys.length,by simp,Nat.zero_le _,h0⟩,?_⟩
 rintro i m σ H ⟨rfl,hi,p⟩
 obtain⟨q1,q2⟩:=hl i σ H hi p
 by_cases hlt:i<min xs.length ys.length
 ·have h1:i<xs.length:=by lia
  have h2:i<ys.length:=by omega
  refine .inr ⟨⟨xs,ys,xs[i],ys[i],q1,q2,by simp[h1],by simp[h2]⟩,Pv (i+1),fun σ' H' p'=>⟨min xs.length ys.length-(i+1),by omega,rfl,hlt,p'⟩,fun v H' y=>?_⟩
  obtain⟨T,x,y,rfl,hT,rfl,f1,f2⟩:=y
  exact hs i x y σ _ T (f1 xs q1) (f2 ys q2) p hT
 ·have e:i=min xs.length ys.length:=by lia
  subst e
  exact .inl ⟨⟨xs,ys,q1,q2,by lia⟩,hd σ H p⟩
end
end L2
namespace K45
open PySem L2 PyProof.Rows
noncomputable def top(i:Nat):Stmt:=PySem.Challenge.pw_partedweb_k45_narrow_by_any_order.main.body.getD i (.Pass ⟨0,0,0,0⟩)
noncomputable abbrev sBesideEach:Stmt:=top 1
noncomputable abbrev sGiven:Stmt:=top 3
noncomputable abbrev sPartedFrom:Stmt:=top 4
noncomputable abbrev sOpenBehind:Stmt:=top 6
noncomputable abbrev sLeastNarrow:Stmt:=top 7
noncomputable abbrev sJoined:Stmt:=top 8
noncomputable abbrev sLeastOnTree:Stmt:=top 10
noncomputable abbrev sBehindEach:Stmt:=top 11
noncomputable abbrev sWeightsBehind:Stmt:=top 12
noncomputable abbrev sLeastOf:Stmt:=top 13
noncomputable abbrev sIsOpenTo:Stmt:=top 14
noncomputable abbrev sCell:Stmt:=top 16
noncomputable abbrev sBox:Stmt:=top 17
noncomputable abbrev sTake:Stmt:=top 18
noncomputable abbrev sMany:Stmt:=top 19
noncomputable abbrev sWeight:Stmt:=top 20
noncomputable abbrev sTree:Stmt:=top 21
noncomputable abbrev sPosts:Stmt:=top 22
noncomputable abbrev sOrder:Stmt:=top 23
noncomputable abbrev sWidths:Stmt:=top 24
noncomputable abbrev sCost:Stmt:=top 25
noncomputable abbrev sPower:Stmt:=top 26
noncomputable abbrev sWithMore:Stmt:=top 27
noncomputable abbrev sDeepOrder:Stmt:=top 28
noncomputable abbrev sOrders:Stmt:=top 29
noncomputable abbrev sAlone:Stmt:=top 30
noncomputable abbrev sRight:Stmt:=top 31
noncomputable abbrev sLaw:Stmt:=top 32
noncomputable def Kept(p:Addr)(H H':Hp):Prop:=∀ b o,b≠p->H b=some o->H' b=some o
theorem Kept.refl{p:Addr}{H:Hp}:Kept p H H:=fun _ _ _ e=>e
theorem Kept.trans{p:Addr}{H H' H'':Hp}(a:Kept p H H')(b:Kept p H' H''):Kept p H H'':=fun c o n e=>b c o n (a c o n e)
theorem Kept.new{p q:Addr}{H:Hp}{o:HO}(h:H q=none):Kept p H (upd H q o):=fun b u _ e=>by rw[upd_ne (ne_of_none e h)];exact e
theorem Kept.at{p:Addr}{H:Hp}{o:HO}:Kept p H (upd H p o):=fun b u n e=>by rw[upd_ne n];exact e
noncomputable def BoxAt(H:Hp)(p:Addr)(N:Nat):Prop:=∃ a b c:Int,H p=some (.lst [.int a,.int b,.int c])/\0<=a/\0<=c/\c<=(N:Int)
theorem BoxAt.mono{H:Hp}{p:Addr}{N M:Nat}(x:BoxAt H p N)(h:N<=M):BoxAt H p M:=by
 obtain⟨a,b,c,e,h1,h2,h3⟩:=x
 exact⟨a,b,c,e,h1,h2,by lia⟩
theorem BoxAt.new{H:Hp}{p q:Addr}{N:Nat}{o:HO}(x:BoxAt H p N)(h:H q=none):BoxAt (upd H q o) p N:=by
 obtain⟨a,b,c,e,r⟩:=x
 exact⟨a,b,c,by rw[upd_ne (ne_of_none e h)];exact e,r⟩
theorem b01(b:Bool):-(2 ^ 64) <(if b=true then 1 else 0:Int)/\(if b=true then 1 else 0:Int)<2 ^ 64:=by cases b <;> decide
theorem b0(b:Bool):(0:Int)<=(if b=true then 1 else 0:Int):=by cases b <;> decide
inductive spCellI(K:PySem.W.Frag)(vs:List V)(H:Hp)(Q:VK):Prop where
 |mk (a:Addr) (ns:List Int) (k:Nat) (h1:vs=[.ref a,.int k]) (h2:SqL K H a (ns.map V.int)) (h3:∀ z,Q (.int z) H)
noncomputable def spCell(K:PySem.W.Frag):Sp:=fun vs H Q _=>spCellI K vs H Q
inductive spBoxI(K:PySem.W.Frag)(vs:List V)(H:Hp)(Q:VK):Prop where
 |mk (a:Addr) (ns:List Int) (k:Nat) (h1:vs=[.ref a,.int k]) (h2:SqL K H a (ns.map V.int)) (h3:∀ p H',H p=none->BoxAt H' p 0->Kept p H H'->Q (.ref p) H')
noncomputable def spBox(K:PySem.W.Frag):Sp:=fun vs H Q _=>spBoxI K vs H Q
inductive spTakeI(vs:List V)(H:Hp)(Q:VK):Prop where
 |mk (p:Addr) (m:Int) (N:Nat) (h1:vs=[.ref p,.int m]) (h2:BoxAt H p N) (h3:N<2 ^ 40) (h4:0<m) (h5:m<1073741824) (h6:∀ z H',0<=z->z<m->BoxAt H' p (N+1)->Kept p H H'->Q (.int z) H')
noncomputable def spTake:Sp:=fun vs H Q _=>spTakeI vs H Q
inductive spManyI(vs:List V)(H:Hp)(Q:VK):Prop where
 |mk (p:Addr) (l f m:Int) (N:Nat) (h1:vs=[.ref p,.int l,.int f,.int m]) (h2:BoxAt H p N) (h3:N+2<2 ^ 40) (h4:l<=f) (h5:7<=m) (h6:f-l<1000) (h7:m<1000) (h8:∀ z H',(l<=z/\z<=f)\/(7<=z/\z<=m)->BoxAt H' p (N+2)->Kept p H H'->Q (.int z) H')
noncomputable def spMany:Sp:=fun vs H Q _=>spManyI vs H Q
inductive spWeightI(vs:List V)(H:Hp)(Q:VK):Prop where
 |mk (p:Addr) (h:Nat) (N:Nat) (h1:vs=[.ref p,.int h]) (h2:h<4) (h3:BoxAt H p N) (h4:N+2<2 ^ 40) (h5:∀ z H',1<=z->BoxAt H' p (N+2)->Kept p H H'->Q (.int z) H')
noncomputable def spWeight:Sp:=fun vs H Q _=>spWeightI vs H Q
structure Txt(mg:Str->Option Value):Prop where
 abs:mg "abs" = none
 int:mg "int" = none
 len:mg "len" = none
 range:mg "range" = none
 min:mg "min" = none
 max:mg "max" = none
 tuple:mg "tuple" = none
 sorted:mg "sorted" = none
 isinst:mg "isinstance" = none
 list:mg "list" = none
 str:mg "str" = none
 bool:mg "bool" = none
 sum:mg "sum" = none
section
variable{P:Program}{w:World}{K:PySem.W.Frag}{mg:Str->Option Value}{base:Heap}
theorem scCell:FnScope ["_law_script","_law_k"] ["_law_script","_law_k"] (defScope sCell):=⟨rfl,rfl,rfl,by decide +kernel,rfl,by decide +kernel,by decide +kernel⟩
theorem ok_cell{f:Addr}{fd:FuncData}(F:Fun K "_law_cell_at" "_law_cell_at" sCell f fd)(T:Txt mg):FnOk P w K mg base CX0 1 f fd ["_law_script","_law_k"] (spCell K):=by
 refine F.ok scCell (fun vs H Q E h=>?_) (fun cdv A outer s H vs Q E hr h=>?_)
 ·obtain⟨a,ns,k,rfl,_⟩:=h
  rfl
 ·obtain⟨a,ns,k,rfl,hS,q⟩:=h
  refine⟨_,pss_cons (ps_if (pt_cmpR op_lt (pv 1) (pe_callB call_len_seq (by rfl) T.len PySem.boot_len (pa_cons (pv 0) pa_nil)) (nomark _)) (pss_one (ps_ret (pe_ix ix_list (pv 0) (pv 1) (fun _ _=>rfl)))) pss_nil) (pss_one (ps_ret pe_int)),?_⟩
  refine⟨_,rfl,_,rfl,a,_,rfl,.inl hS,_,_,rfl,rfl,_,rfl,?_⟩
  refine ite2 (fun hk=>?_) (fun _=>?_)
  ·have hk':k<ns.length:=by
    have:=of_decide_eq_true hk
    rw[List.length_map]at this
    lia
   exact⟨_,rfl,_,rfl,a,_,_,_,rfl,rfl,hS,atI_nat (v:=V.int ns[k]) (by rw[List.getElem?_map,List.getElem?_eq_getElem hk'];rfl),q _⟩
  ·exact q _
theorem scBox:FnScope ["_law_script","_law_k","_law_cell"] ["_law_script","_law_k"] (defScope sBox):=⟨rfl,rfl,rfl,by decide +kernel,rfl,by decide +kernel,by decide +kernel⟩
theorem ok_box{f g:Addr}{fd gd:FuncData}(F:Fun K "_law_box" "_law_box" sBox f fd)(T:Txt mg)(G:Fun K "_law_cell_at" "_law_cell_at" sCell g gd)(mG:mg "_law_cell_at" = some (.ref g))(bG:Binds K gd ["_law_script","_law_k"] []):FnOk P w K mg base CX0 2 f fd ["_law_script","_law_k"] (spBox K):=by
 refine F.ok scBox (fun vs H Q E h=>?_) (fun cdv A outer s H vs Q E hr h=>?_)
 ·obtain⟨a,ns,k,rfl,_⟩:=h
  rfl
 ·obtain⟨a,ns,k,rfl,hS,q⟩:=h
  have GG:FnOk P w K mg base CX0 1 g gd ["_law_script","_law_k"] (spCell K):=ok_cell G T
  refine⟨_,pss_cons (ps_set (i:=2) scBox.nd rfl (Or.inl rfl) (pe_call GG hr rfl mG G.kp bG .nil pass0 (pa_cons (pv 0) (pa_cons (pv 1) pa_nil))))
   (pss_one (ps_ret (pe_lst (pa_cons (pe_op op_mul (pe_callB call_abs (by rfl) T.abs boot_abs (pa_cons (pv 2) pa_nil)) (pe_callTy call_int1 (by rfl) T.int boot_int (pa_cons (pe_cmpR op_ge (pe_callB call_abs (by rfl) T.abs boot_abs (pa_cons (pv 2) pa_nil)) (pe_op op_pow pe_int pe_int) (nomark _)) pa_nil)))
    (pa_cons (pe_op op_add (pe_op op_add (pe_op op_mod (pv 2) pe_int) (pe_op op_mul pe_int (pv 1))) pe_int) (pa_cons pe_int pa_nil)))))),?_⟩
  refine⟨_,rfl,_,rfl,a,ns,k,rfl,hS,fun z=>?_⟩
  refine⟨_,rfl,_,rfl,_,rfl,_,rfl,_,_,rfl,rfl,⟨by decide,by decide,by decide⟩,_,_,rfl,rfl,.inr ⟨_,rfl,_,_,rfl,rfl,.inr ?_,_,rfl,_,_,rfl,rfl,(by show(0:Int)<2305843009213693951;decide),_,rfl,_,_,rfl,rfl,.inl ⟨by decide,by decide⟩,_,_,rfl,rfl,_,_,rfl,rfl,(by show 3<=sizeLine;decide),fun p hp=>?_⟩⟩
  ·exact b01 _
  ·refine q p _ hp ⟨_,_,_,upd_same,?_,by decide,by decide⟩ (Kept.new hp)
   refine Int.mul_nonneg ?_ ?_
   ·split <;> lia
   ·exact b0 _
theorem scTake:FnScope ["_law_box_here","_law_many_here","_law_found","_law_once","_law_twice"] ["_law_box_here","_law_many_here"] (defScope sTake):=⟨rfl,rfl,rfl,by decide +kernel,rfl,by decide +kernel,by decide +kernel⟩
theorem ok_take{f:Addr}{fd:FuncData}(F:Fun K "_law_take" "_law_take" sTake f fd):FnOk P w K mg base CX0 1 f fd ["_law_box_here","_law_many_here"] spTake:=by
 refine F.ok scTake (fun vs H Q E h=>?_) (fun cdv A outer s H vs Q E hr h=>?_)
 ·obtain⟨p,m,N,rfl,_⟩:=h
  rfl
 ·obtain⟨p,m,N,rfl,⟨a,b,c,hp,a0,c0,cN⟩,hN,m0,m1,q⟩:=h
  have hS:∀ {x y z:Int}{G:Hp},G p=some (.lst [.int x,.int y,.int z])->SqL K G p [.int x,.int y,.int z]:=fun e=>SqL.of e
  refine⟨_,pss_cons (ps_if (pt_cmpR op_gt (pe_ix ix_list (pv 0) pe_int (fun _ _=>rfl)) pe_int (nomark _))
    (pss_cons (ps_set (i:=2) scTake.nd rfl (Or.inl rfl) (pe_op op_mod (pe_ix ix_list (pv 0) pe_int (fun _ _=>rfl)) (pv 1)))
     (pss_cons (ps_asg (pe_op op_fdiv (pe_ix ix_list (pv 0) pe_int (fun _ _=>rfl)) (pv 1)) (pg_sub (pv 0) pe_int set_list))
     (pss_one (ps_ret (pv 2))))) pss_nil)
   (pss_cons (ps_asg (pe_op op_add (pe_ix ix_list (pv 0) pe_int (fun _ _=>rfl)) pe_int) (pg_sub (pv 0) pe_int set_list))
   (pss_cons (ps_set (i:=3) scTake.nd rfl (Or.inl rfl) (pe_op op_mod (pe_op op_mul (pe_op op_add (pe_ix ix_list (pv 0) pe_int (fun _ _=>rfl)) (pe_op op_mul pe_int (pe_ix ix_list (pv 0) pe_int (fun _ _=>rfl)))) (pe_op op_add pe_int (pe_ix ix_list (pv 0) pe_int (fun _ _=>rfl)))) pe_int))
   (pss_cons (ps_set (i:=4) scTake.nd rfl (Or.inl rfl) (pe_op op_mod (pe_op op_mul (pe_op op_add (pv 3) (pe_ix ix_list (pv 0) pe_int (fun _ _=>rfl))) (pe_op op_add (pe_op op_mod (pv 3) pe_int) pe_int)) pe_int))
   (pss_one (ps_ret (pe_op op_mod (pe_op op_fdiv (pe_op op_mod (pe_op op_add (pe_op op_mul (pv 4) pe_int) (pv 3)) pe_int) pe_int) (pv 1))))))),?_⟩
  refine⟨_,rfl,p,_,_,_,rfl,rfl,hS hp,rfl,_,_,rfl,rfl,_,rfl,?_⟩
  refine ite2 (fun hk=>?_) (fun _=>?_)
  ·have pos:0<a:=of_decide_eq_true hk
   refine⟨_,rfl,p,_,_,_,rfl,rfl,hS hp,rfl,_,rfl,_,_,rfl,rfl,m0,?_⟩
   refine⟨_,rfl,p,_,_,_,rfl,rfl,hS hp,rfl,_,rfl,_,_,rfl,rfl,⟨m0,m1⟩,_,rfl,p,_,_,_,rfl,rfl,hp,rfl,_,rfl,?_⟩
   refine q _ _ (Int.emod_nonneg _ (by lia)) (Int.emod_lt_of_pos _ m0) ⟨_,_,_,upd_same,Int.ediv_nonneg a0 (by lia),c0,by lia⟩ Kept.at
  ·refine⟨_,rfl,p,_,_,_,rfl,rfl,hS hp,rfl,_,_,rfl,rfl,_,rfl,p,_,_,_,rfl,rfl,hp,rfl,?_⟩
   have g1:(upd H p (.lst [.int a,.int b,.int (c+1)])) p=some (.lst [.int a,.int b,.int (c+1)]):=upd_same
   refine⟨_,rfl,p,_,_,_,rfl,rfl,hS g1,rfl,_,rfl,p,_,_,_,rfl,rfl,hS g1,rfl,_,_,rfl,rfl,.inl ⟨by decide,by decide⟩,_,_,rfl,rfl,_,rfl,p,_,_,_,rfl,rfl,hS g1,rfl,_,_,rfl,rfl,_,_,rfl,rfl,.inr ⟨by lia,by lia⟩,_,_,rfl,rfl,(by show(0:Int)<2147483647;decide),?_⟩
   generalize ho:(b+48271 * (c+1)) * (39373+(c+1)) % 2147483647=once
   have o0:0<=once:=by rw[<- ho];exact Int.emod_nonneg _ (by decide)
   have o1:once<2147483647:=by rw[<- ho];exact Int.emod_lt_of_pos _ (by decide)
   refine⟨_,rfl,_,rfl,p,_,_,_,rfl,rfl,hS g1,rfl,_,_,rfl,rfl,_,rfl,_,_,rfl,rfl,(by show(0:Int)<40009;decide),_,_,rfl,rfl,_,_,rfl,rfl,.inl ⟨by lia,by lia⟩,_,_,rfl,rfl,(by show(0:Int)<2147483629;decide),?_⟩
   generalize ht:(once+(c+1)) * (once % 40009+7) % 2147483629=twice
   have t0:0<=twice:=by rw[<- ht];exact Int.emod_nonneg _ (by decide)
   have t1:twice<2147483629:=by rw[<- ht];exact Int.emod_lt_of_pos _ (by decide)
   refine⟨_,rfl,_,_,rfl,rfl,.inl ⟨by lia,by lia⟩,_,rfl,_,_,rfl,rfl,_,_,rfl,rfl,(by show(0:Int)<2147483587;decide),_,_,rfl,rfl,⟨by decide,by decide⟩,_,rfl,_,_,rfl,rfl,m0,?_⟩
   exact q _ _ (Int.emod_nonneg _ (by lia)) (Int.emod_lt_of_pos _ m0) ⟨_,_,_,g1,a0,by lia,by lia⟩ Kept.at
theorem scMany:FnScope ["_law_box_here","_law_least","_law_few","_law_most"] ["_law_box_here","_law_least","_law_few","_law_most"] (defScope sMany):=⟨rfl,rfl,rfl,by decide +kernel,rfl,by decide +kernel,by decide +kernel⟩
structure TakeF(P:Program)(w:World)(K:PySem.W.Frag)(mg:Str->Option Value)(base:Heap)(g:Addr)(gd:FuncData):Prop where
 ok:FnOk P w K mg base CX0 1 g gd ["_law_box_here","_law_many_here"] spTake
 mg:mg "_law_take" = some (.ref g)
 kp:PySem.W.keepIn K (.ref g)=true
 bd:Binds K gd ["_law_box_here","_law_many_here"] []
theorem ok_many{f g:Addr}{fd gd:FuncData}(F:Fun K "_law_many" "_law_many" sMany f fd)(G:TakeF P w K mg base g gd):FnOk P w K mg base CX0 2 f fd ["_law_box_here","_law_least","_law_few","_law_most"] spMany:=by
 refine F.ok scMany (fun vs H Q E h=>?_) (fun cdv A outer s H vs Q E hr h=>?_)
 ·obtain⟨p,l,f,m,N,rfl,_⟩:=h
  rfl
 ·obtain⟨p,l,f,m,N,rfl,B,hN,lf,m7,fl,mm,q⟩:=h
  refine⟨_,pss_cons (ps_if (pt_cmpR op_eq (pe_call G.ok hr rfl G.mg G.kp G.bd .nil pass0 (pa_cons (pv 0) (pa_cons pe_int pa_nil))) pe_int (nomark _))
   (pss_one (ps_ret (pe_op op_add pe_int (pe_call G.ok hr rfl G.mg G.kp G.bd .nil pass0 (pa_cons (pv 0) (pa_cons (pe_op op_sub (pv 3) pe_int) pa_nil)))))) pss_nil)
   (pss_one (ps_ret (pe_op op_add (pv 1) (pe_call G.ok hr rfl G.mg G.kp G.bd .nil pass0 (pa_cons (pv 0) (pa_cons (pe_op op_add (pe_op op_sub (pv 2) (pv 1)) pe_int) pa_nil)))))),?_⟩
  refine⟨_,rfl,p,_,N,rfl,B,by lia,by decide,by decide,fun z H1 z0 z1 B1 k1=>⟨rfl,_,rfl,?_⟩⟩
  refine ite2 (fun _=>?_) (fun _=>?_)
  ·refine⟨_,rfl,_,rfl,_,_,rfl,rfl,p,_,N+1,rfl,B1,by lia,by lia,by lia,fun y H2 y0 y1 B2 k2=>⟨_,_,rfl,rfl,?_⟩⟩
   exact q _ _ (.inr ⟨by lia,by lia⟩) B2 (k1.trans k2)
  ·refine⟨_,rfl,_,rfl,_,rfl,_,rfl,_,_,rfl,rfl,_,_,rfl,rfl,p,_,N+1,rfl,B1,by lia,by lia,by lia,fun y H2 y0 y1 B2 k2=>⟨_,_,rfl,rfl,?_⟩⟩
   exact q _ _ (.inl ⟨by lia,by lia⟩) B2 (k1.trans k2)
theorem scWeight:FnScope ["_law_box_here","_law_heavy"] ["_law_box_here","_law_heavy"] (defScope sWeight):=⟨rfl,rfl,rfl,by decide +kernel,rfl,by decide +kernel,by decide +kernel⟩
theorem ok_weight{f g:Addr}{fd gd:FuncData}(F:Fun K "_law_weight" "_law_weight" sWeight f fd)(G:TakeF P w K mg base g gd):FnOk P w K mg base CX0 2 f fd ["_law_box_here","_law_heavy"] spWeight:=by
 refine F.ok scWeight (fun vs H Q E h=>?_) (fun cdv A outer s H vs Q E hr h=>?_)
 ·obtain⟨p,h,N,rfl,_⟩:=h
  rfl
 ·obtain⟨p,h,N,rfl,h4,B,hN,q⟩:=h
  refine⟨_,pss_one (ps_ret (pe_op op_add pe_int (pe_call G.ok hr rfl G.mg G.kp G.bd .nil pass0 (pa_cons (pv 0) (@pa_sub _ _ _ _ _ _ _
   (@pe_ix _ _ _ _ _ _ _ ix_list (@pe_lst _ _ _ _ (@pa_cst _ _ _ _ _ _ _ pe_int (@pa_cst _ _ _ _ _ _ _ pe_int (@pa_cst _ _ _ _ _ _ _ pe_int (@pa_sub _ _ _ _ _ _ _ (@pe_ix _ _ _ _ _ _ _ ix_list (@pe_lst _ _ _ _ (@pa_cst _ _ _ _ _ _ _ pe_int (@pa_cst _ _ _ _ _ _ _ pe_int (@pa_bin _ _ _ _ _ _ _ _ (pe_op op_pow pe_int pe_int) pa_nil)))) (pe_call G.ok hr rfl G.mg G.kp G.bd .nil pass0 (pa_cons (pv 0) (pa_cons pe_int pa_nil))) (fun _ _=>rfl)) pa_nil))))) (pv 1) (fun _ _=>rfl)) pa_nil))))),?_⟩
  refine⟨_,rfl,10,9,rfl,rfl,⟨by decide,by decide,by decide⟩,?_⟩
  refine⟨(by show 3<=sizeLine;decide),fun l hl=>?_⟩
  refine⟨_,rfl,p,_,N,rfl,B.new hl,by lia,by decide,by decide,fun z H1 z0 z1 B1 k1=>?_⟩
  have lp:l≠p:=fun e=>by
   obtain⟨a,b,c,e1,_⟩:=B
   rw[e,e1]at hl
   cases hl
  have el:=k1 l _ lp upd_same
  obtain⟨zn,rfl⟩:∃ zn:Nat,z=(zn:Int):=⟨z.toNat,by lia⟩
  have e9:((10:Int) ^ (Int.toNat 9))=1000000000:=by decide +kernel
  try dsimp only at el
  rw[e9]at el
  have h3:zn<3:=by lia
  obtain⟨v,hv,v0,v1⟩:∃ v:Int,[V.int 10,V.int 100,V.int 1000000000][zn]?=some (V.int v)/\0<v/\v<1073741824:=by
   match zn,h3 with
   | 0,_=>exact⟨_,rfl,by decide,by decide⟩
   | 1,_=>exact⟨_,rfl,by decide,by decide⟩
   | 2,_=>exact⟨_,rfl,by decide,by decide⟩
  refine⟨l,_,_,_,rfl,rfl,SqL.of el,atI_nat hv,(by show 4<=sizeLine;decide),fun l2 hl2=>?_⟩
  obtain⟨v',hv',v0',v1'⟩:∃ v':Int,[V.int 1,V.int 3,V.int 9,V.int v][h]?=some (V.int v')/\0<v'/\v'<1073741824:=by
   match h,h4 with
   | 0,_=>exact⟨_,rfl,by decide,by decide⟩
   | 1,_=>exact⟨_,rfl,by decide,by decide⟩
   | 2,_=>exact⟨_,rfl,by decide,by decide⟩
   | 3,_=>exact⟨_,rfl,v0,v1⟩
  refine⟨_,rfl,l2,_,_,_,rfl,rfl,SqL.of upd_same,atI_nat hv',p,_,N+1,rfl,B1.new hl2,by lia,v0',v1',fun y H2 y0 y1 B2 k2=>⟨_,_,rfl,rfl,?_⟩⟩
  exact q _ _ (by lia) B2 ((Kept.new hl).trans (k1.trans ((Kept.new hl2).trans k2)))
end
noncomputable abbrev Tie:=Int×Int×Int
noncomputable def tieV(x:Tie):List V:=[.int x.1,.int x.2.1,.int x.2.2]
structure WebAt(H:Hp)(t:Addr)(n:Nat)(ties:List Tie):Prop where
 ex:∃ (ts:Addr) (as:List Addr),H t=some (.tup [.int n,.ref ts])/\H ts=some (.tup (as.map V.ref))/\Paired (fun a x=>H a=some (.tup (tieV x))) as ties
 len:ties.length<=60
theorem WebAt.same{H H':Hp}{t:Addr}{n:Nat}{ties:List Tie}(W:WebAt H t n ties)(s:Same H H'):WebAt H' t n ties:=by
 obtain⟨⟨ts,as,h1,h2,h3⟩,l⟩:=W
 exact⟨⟨ts,as,s _ _ h1,s _ _ h2,Paired.mapP h3 fun a x e=>s _ _ e⟩,l⟩
theorem flat_ints(ns:List Int):(ns.map V.int).all flatV=true:=by
 rw[List.all_map,List.all_eq_true]
 intro x _
 rfl
theorem inV_ints(z:Int):∀ ns:List Int,inV (V.int z) (ns.map V.int)=ns.contains z
 |[]=>rfl
 |n :: ns=>by
  have ih:=inV_ints z ns
  unfold inV at ih ⊢
  rw[List.map_cons,List.any_cons,ih,List.contains_cons]
  congr 1
  show(n == z)=(z == n)
  exact Bool.beq_comm
theorem Kept.free{p l:Addr}{H H':Hp}{M:Nat}(k:Kept p H H')(B:BoxAt H' p M)(h:H' l=none):H l=none:=by
 cases e:H l with
 |none=>rfl
 |some o =>
  by_cases lp:l=p
  ·obtain⟨a,b,c,e1,_⟩:=B
   rw[lp,e1]at h
   cases h
  ·rw[k l o lp e]at h
   cases h
theorem BoxAt.ne{H:Hp}{p l:Addr}{N:Nat}(B:BoxAt H p N)(h:H l=none):l≠p:=fun e=>by
 obtain⟨a,b,c,e1,_⟩:=B
 rw[e,e1]at h
 cases h
theorem Kept.put{p d:Addr}{H H':Hp}{o:HO}(k:Kept p H H')(h:H d=none):Kept p H (upd H' d o):=fun b u n e=>by
 rw[upd_ne (ne_of_none e h)]
 exact k b u n e
theorem BoxAt.put{H:Hp}{p d:Addr}{N:Nat}{o:HO}(B:BoxAt H p N)(h:d≠p):BoxAt (upd H d o) p N:=by
 obtain⟨a,b,c,e,r⟩:=B
 exact⟨a,b,c,by rw[upd_ne (Ne.symm h)];exact e,r⟩
theorem tTru_if{σ:L2.St}{H:Hp}{A B:Hp->Prop}(h:A H):tTru σ H (fun b H3=>if b=true then A H3 else B H3):=by
 show if true=true then A H else B H
 exact iteT h
theorem Paired.snoc{α β:Type}{F:α->β->Prop}:∀ {l₁:List α}{l₂:List β}{a:α}{b:β},Paired F l₁ l₂->F a b->Paired F (l₁++[a]) (l₂++[b]):=by
 intro l ks a b h r
 induction h with
 |nil=>exact .cons r .nil
 |cons q t ih=>exact .cons q ih
noncomputable def TieOk(n:Nat)(x:Tie):Prop:=0<=x.1/\x.1<x.2.1/\x.2.1<n/\1<=x.2.2
noncomputable def tieLt(x y:Tie):Prop:=Srt.lexlt [x.1,x.2.1] [y.1,y.2.1]=true
noncomputable def unkey(k:List Key):List Int:=k.map fun x=>match x with
 | .inl i=>i
 | .inr _=>0
theorem valV_mem{kvs:List (List Key×V)}{k:List Key}(h:k∈kvs.map (·.1)):∃ v,valV kvs k=some v/\(k,v)∈kvs:=by
 induction kvs with
 |nil=>cases h
 |cons q r ih =>
  by_cases e:q.1=k
  ·exact⟨q.2,valV_pos e,by rw[<- e];exact List.mem_cons_self ..⟩
  ·rw[List.map_cons]at h
   rcases List.mem_cons.mp h with z | z
   ·exact absurd z.symm e
   ·obtain⟨v,h1,h2⟩:=ih z
    exact⟨v,(valV_neg e).trans h1,List.mem_cons_of_mem _ h2⟩
structure WeightF(P:Program)(w:World)(K:PySem.W.Frag)(mg:Str->Option Value)(base:Heap)(g:Addr)(gd:FuncData):Prop where
 ok:FnOk P w K mg base CX0 2 g gd ["_law_box_here","_law_heavy"] spWeight
 mg:mg "_law_weight" = some (.ref g)
 kp:PySem.W.keepIn K (.ref g)=true
 bd:Binds K gd ["_law_box_here","_law_heavy"] []
end K45
namespace L2
open PySem PySem.W PyProof.Rows Srt
open PySem PySem.Spec PySem.W PyProof.Rows
theorem keys_list:typeLookup (.type "list") "keys" = pure none:=by rw[typeLookup_type,builtinLookup_eq_fast];kernel_rfl
theorem attrq_keys_list{prog:Program}{w:World}{A:Around}{E:Value->Shared->Prop}{s:Shared}{a:Addr}{o:Obj}{xs:Array Value}{k:Nat}{Q:Option Value->Shared->Prop}
  (hx:s.heap.get? a=some o) (hc:o.cls = .type "list") (hdat:o.data = .seq xs k) (hd:o.dict=none) (hA:A.handled=none)
  (h:∀ h' tk,(∀ b ob,s.heap.get? b=some ob->h'.get? b=some ob)->Q none { s with heap:=h',toks:=tk }):wpAny (model prog w) A (getAttr? (.ref a) "keys") Q E s:=by
 obtain⟨cc,dct,dat,sl⟩:=o
 simp only at hc hdat hd
 subst hc hdat hd
 obtain⟨hp,gg,dr,tc,oo⟩:=s
 have ty:∀ tn,(⟨hp,gg,dr,tn,oo⟩:Shared).TypeIs (.ref a) "list":=fun _=>⟨_,hx,rfl⟩
 have q1:=sub_AttributeError;have q2:=F.slot_list_getattribute.lookup;have q3:=F.slot_list_getattribute.bind (.ref a);have q4:=am_list_getattr_none
 unfold getAttr?;unfold getAttrBy?;unfold getAttrBy
 repeat (any_goals (first | assumption | exact ty _ |((with_reducible show wpAny _ _ (call (Value.builtin "list.__getattribute__") _ _) _ _ _);refine call_meets F.slot_list_getattribute (ty _) am_entry_list_getattribute (F.args_list_getattribute_2 _ _) (meets_getattribute_miss_list a xs k sl "keys" _ keys_list (by decide)) ⟨hx,hA,fun h2 tk2 e miss=>?_⟩) | wp_step))
 obtain⟨t1,u1,at1⟩:=miss.there
 show wpAny _ _ (getattributeRaised _ _ _ _ _ _ _) _ _ _;unfold getattributeRaised
 (repeat (any_goals (first | assumption | wp_step)));exact h _ _ miss.of.keeps
open PySem PySem.Spec PySem.W PyProof.Rows
open PySem PySem.Spec PySem.W PyProof.Rows
noncomputable def putPs(ps:List (List Key×Addr×V)):List (List Key×V):=ps.foldl (fun kvs x=>putK kvs x.1 x.2.2) []
theorem putPs_snoc{ps:List (List Key×Addr×V)}{x:List Key×Addr×V}:putPs (ps++[x])=putK (putPs ps) x.1 x.2.2:=by
 unfold putPs
 rw[List.foldl_append]
 rfl
theorem putPs_len:∀ (ps:List (List Key×Addr×V)) (kvs:List (List Key×V)),(ps.foldl (fun kvs x=>putK kvs x.1 x.2.2) kvs).length<=kvs.length+ps.length
 |[],kvs=>Nat.le_refl _
 |x :: r,kvs=>by
  have:=putPs_len r (putK kvs x.1 x.2.2)
  have:=length_putK kvs x.1 x.2.2
  show(r.foldl (fun kvs x=>putK kvs x.1 x.2.2) (putK kvs x.1 x.2.2)).length<=_
  rw[List.length_cons]
  lia
section
variable{X:Cx}{pins:List (Addr×Obj)}{σ:St}{H:Hp}
theorem dict_loop(hc:X.calm=true)(hu:X.A.units+64<cLine){p d it:Addr}{bs:List Addr}{ps:List (List Key×Addr×V)}{its:List Value}{R:Result->Shared->Prop}(hd0:H d=none)(hSq:SqL X.K H p (bs.map V.ref))
  (hP:Paired (fun b (x:List Key×Addr×V)=>H b=some (.tup [.ref x.2.1,x.2.2])/\H x.2.1=some (.tup (x.1.map kV))) bs ps) (hl:ps.length<sizeLine) (hid:it≠d)
  (fin:∀ s',Inv X pins σ (upd H d (.dT (putPs ps))) s'->R (.ok (.ret .none)) s') :
  ∀ (m i:Nat) (s':Shared),m+i=ps.length->Inv X pins σ (upd H d (.dT (putPs (ps.take i)))) s'->FpOk X pins H it->s'.heap.IsListIter it p i ->
   codeAny (model X.prog X.w) X.A.in1 (.builtin "dict.update.loop" ⟨[.ref d,.ref it,rawInt i,.none],[]⟩) R s':=by
 intro m
 have lbs:bs.length=ps.length:=hP.length
 induction m with
 |zero =>
  intro i s' hm I fp hit
  have hS2:SqL X.K (upd H d (.dT (putPs (ps.take i)))) p (bs.map V.ref):=(Same.new hd0).seq hSq
  obtain⟨us,rv,pl,_⟩:=I.list hS2
  have ul:=rv.length
  rw[List.length_map]at ul
  refine codeAny_builtin (b:=Builtin.«dict.update.loop») (entryFor_of_tree (by kernel_rfl)) ?_
  unfold Builtin.«dict.update.loop»
  refine wpAny_bind (wpAny_pyNext_list_end (it:=it) (l:=p) (i:=i) (I.ok.hd hc) hit pl.isList (by simp;lia) fun h2 he2=>?_)
  refine wpAny_bind (wpAny_pure (wpAny_pure ?_))
  have I2:=I.turnedL (t':=s'.toks) (h':=h2) (ch:=[it]) (fun b hb=>by rw[List.mem_singleton.mp hb];exact⟨by rw[upd_ne hid];exact fp.1,fp.2⟩) (fun b o nb e=>he2 b o (fun z=>nb (by rw[z];exact List.mem_singleton.mpr rfl)) e)
  rw[List.take_of_length_le (by lia)]at I2
  exact fin _ I2
 |succ m ih =>
  intro i s' hm I fp hit
  have hS2:SqL X.K (upd H d (.dT (putPs (ps.take i)))) p (bs.map V.ref):=(Same.new hd0).seq hSq
  obtain⟨us,rv,pl,_⟩:=I.list hS2
  have ul:=rv.length
  rw[List.length_map]at ul
  have ib:i<bs.length:=by lia
  have ip:i<ps.length:=by lia
  obtain⟨hb,hk⟩:=Paired.at hP i ib ip
  have tk:ps.take (i+1)=ps.take i++[ps[i]]:=List.take_succ_eq_append_getElem ip
  generalize ps[i]=x at hb hk tk
  obtain⟨kk,ka,v⟩:=x
  obtain⟨u,hu',ru⟩:=rv.get (show(bs.map V.ref)[i]?=some (V.ref bs[i]) by rw[List.getElem?_map,List.getElem?_eq_getElem ib];rfl)
  cases ru
  refine codeAny_builtin (b:=Builtin.«dict.update.loop») (entryFor_of_tree (by kernel_rfl)) ?_
  unfold Builtin.«dict.update.loop»
  refine wpAny_bind (wpAny_pyNext_list_item (it:=it) (l:=p) (i:=i) hit pl.isList (x:=.ref bs[i]) (by simpa using hu') fun h1 hit1 sb1=>?_)
  have I1:=I.turnedL (t':=s'.toks) (h':=h1) (ch:=[it]) (fun b hb=>by rw[List.mem_singleton.mp hb];exact⟨by rw[upd_ne hid];exact fp.1,fp.2⟩) (fun b o nb e=>sb1.extBut b o (fun z=>nb (by rw[z];exact List.mem_singleton.mpr rfl)) e)
  have hb1:(upd H d (.dT (putPs (ps.take i)))) bs[i]=some (.tup [.ref ka,v]):=(Same.new hd0) _ _ hb
  have hk1:(upd H d (.dT (putPs (ps.take i)))) ka=some (.tup (kk.map kV)):=(Same.new hd0) _ _ hk
  obtain⟨_,its2,rv2,o2,e2,c2,n2,d2⟩:=I1.hok _ _ hb1
  obtain⟨u1,u2,eu,r1,r2⟩:=Vals.two rv2
  subst eu
  cases r1
  refine wpAny_bind ?_
  refine wpAny_holding ?_
  unfold Builtin.Dict.pairItems
  refine wpAny_bind (wpAny_tryCatch (wpAny_bind (wpAny_typeOf (T:="tuple") ⟨o2,e2,c2⟩ ?_)))
  rw[if_pos (by decide)]
  refine wpAny_bind (wpAny_seqItems e2 d2 (wpAny_pure ?_))
  show wpAny _ _ (holding [Value.ref ka,u2] (dictSet d (.ref ka) u2)) _ _ _
  refine wpAny_holding ?_
  have eH:(upd H d (.dT (putPs (ps.take i)))) d=some (.dT (putPs (ps.take i))):=upd_same
  obtain⟨z,hd,xs,rel,dd⟩:=dt_of I1.hok eH
  have hz:xs.length<=sizeLine:=by rw[<- Paired.length rel];exact z
  have hpl:(putPs (ps.take i)).length<=i:=by
   have:=putPs_len (ps.take i) []
   rw[List.length_take]at this
   show((ps.take i).foldl (fun kvs x=>putK kvs x.1 x.2.2) []).length<=i
   simp only[List.length_nil]at this
   lia
  have hlp:(putK (putPs (ps.take i)) kk v).length<=sizeLine:=by have:=length_putK (putPs (ps.take i)) kk v;lia
  have un:(X.A.in1.under (Code.builtin "dict.update.loop" ⟨[Value.ref d,Value.ref it,rawInt i,Value.none],[]⟩)).units<cLine:=by
   have e:(X.A.in1.under (Code.builtin "dict.update.loop" ⟨[Value.ref d,Value.ref it,rawInt i,Value.none],[]⟩)).units=X.A.units+1+1:=by first | rfl | simp[Around.under,Code.cUnits,Code.frames,Code.isFrame]
   rw[e]
   lia
  refine wpAny_dictSet_heap (knd:=tupleKind (mixKind X.prog X.w)) (hsz:=hz) un (key_of I1.hok hk1) dd fun h2 dd' hs=>?_
  obtain⟨q,es,ep,hq,g2,g3,g4,_,g5⟩:=dd'
  have I2:=d_write (t':=s'.toks+(tupleKind (mixKind X.prog X.w)).draws kk) (ob:=.dT (putK (putPs (ps.take i)) kk v)) I1 (by rw[eH];exact True.intro) hs ⟨q,hq⟩ ⟨hlp,hd,_,(rel.put kk hk1 r2).keeps fun c ys ec=>(by rw[upd_ne (ne_of ec eH (fun z=>nomatch z))];exact ec),q,es,ep,hq,g2,g3,g4,g5⟩
  rw[upd_upd]at I2
  have pe:putK (putPs (ps.take i)) kk v=putPs (ps.take (i+1)):=by rw[tk,putPs_snoc]
  rw[pe]at I2
  exact wpAny_pure ⟨plainId_quiet (by decide +kernel) _,ih (i+1) _ (by lia) I2 fp (Heap.IsListIter.at hit1 fun o e=>hs.extBut _ o hid e)⟩
end
theorem call_dict_pairs{X:Cx}(hc:X.calm=true)(hu:X.A.units+64<cLine):CallR X (.type "dict") (fun xs H Q=>∃ (p:Addr) (bs:List Addr) (ps:List (List Key×Addr×V)),xs=[.ref p]/\SqL X.K H p (bs.map V.ref) /\
  Paired (fun b (x:List Key×Addr×V)=>H b=some (.tup [.ref x.2.1,x.2.2])/\H x.2.1=some (.tup (x.1.map kV))) bs ps/\ps.length<sizeLine/\∀ l,H l=none->Q (.ref l) (upd H l (.dT (putPs ps)))):=by
 intro pins s σ H xs us Q I r h
 obtain⟨p,bs,ps,rfl,hq,hP,hl,q⟩:=h
 obtain⟨u,rfl,rx⟩:=Vals.one r
 cases rx
 obtain⟨its,r',pl,hz⟩:=I.list hq
 refine callType_codes (Q₁:=fun ob sn=>ob = .ref s.heap.objs.size/\sn = { s with heap:=s.heap.push { cls:=.type "dict",data:=.dict #[] } }) F.kt_called_dict (F.kt_typeCall_dict_1 _) F.entry_dict_init (kt_code_dict_new _ ⟨rfl,rfl⟩) ?_
 rintro ob sn ⟨rfl,rfl⟩
 have hL:(s.heap.push { cls:=.type "dict",data:=.dict #[] }).IsList p its.toArray:=Heap.IsList.at pl.isList fun o e=>Heap.get?_push_of_some _ e
 have hnew:(s.heap.push { cls:=.type "dict",data:=.dict #[] }).DictOf (mixKind X.prog X.w) s.heap.objs.size []:=Heap.DictOf.new s.heap
 refine⟨hnew.typeIs,F.args_dict_init_2 _ _,?_⟩;unfold Builtin.«dict.__init__»
 refine wpAny_bind ?_;unfold Builtin.Dict.selfAndRest;refine wpAny_bind (wpAny_notOrdered_dict hnew.typeIs ?_)
 show wpAny _ _ (pure (s.heap.objs.size,[Value.ref p])) _ _ _;refine wpAny_pure ?_
 show wpAny _ _ (Builtin.Dict.updateFrom "dict.__init__" s.heap.objs.size (.ref p) [] .none) _ _ _;unfold Builtin.Dict.updateFrom
 refine wpAny_bind (wpAny_typeOf hL.typeIs ?_)
 rw[if_pos (by decide)]
 obtain⟨ol,nl,hol,hcl,hdd,hdl⟩:=pl
 refine wpAny_bind (attrq_keys_list (Heap.get?_push_of_some _ hol) hcl hdl hdd (I.ok.hd hc) fun h' tk kp=>?_)
 simp only[Option.isNone_none,if_true]
 have hL':h'.IsList p its.toArray:=Heap.IsList.at hL fun o e=>kp _ o e
 refine wpAny_bind (wpAny_rule (wpAny_bind (wpAny_pyIter_list hL' ?_)))
 have kp1:∀ b o,s.heap.get? b=some o->(h'.push { cls:=.type "list_iterator",data:=.fields #[.ref p,.int 0 0] }).get? b=some o:=fun b o e=>Heap.get?_push_of_some _ (kp _ _ (Heap.get?_push_of_some _ e))
 have g1:h'.get? s.heap.objs.size=some { cls:=.type "dict",data:=.dict #[] }:=kp _ _ (Heap.get?_push_size _ rfl)
 have gd:(h'.push { cls:=.type "list_iterator",data:=.fields #[.ref p,.int 0 0] }).get? s.heap.objs.size=some { cls:=.type "dict",data:=.dict #[] }:=Heap.get?_push_of_some _ g1
 have I1:Inv X pins σ (upd H s.heap.objs.size (.dT [])) { s with heap:=h'.push { cls:=.type "list_iterator",data:=.fields #[.ref p,.int 0 0] },toks:=tk }:=I.laid (a:=s.heap.objs.size) (o:=.dT []) (t':=tk) kp1 (Nat.le_refl _) ⟨Nat.zero_le _,beq_eq_false_iff_ne.mpr (Ne.symm (Nat.ne_of_lt I.big)),[],.nil,_,#[],0,gd,⟨rfl,rfl,rfl⟩,rfl,rfl,List.nodup_nil⟩
 have hsz:s.heap.objs.size<h'.objs.size:=Heap.lt_size g1
 refine wpAny_pure ⟨plainId_quiet (by decide +kernel) _,?_⟩
 refine dict_loop (H:=H) (bs:=bs) (ps:=ps) (its:=its) hc hu (I.hok.fresh (Nat.le_refl _)) hq hP hl (Nat.ne_of_gt hsz) (fun s' I'=>⟨rfl,.ref s.heap.objs.size,_,I',rfl,q _ (I.hok.fresh (Nat.le_refl _))⟩) ps.length 0 _ rfl (by rw[List.take_zero];exact I1) ?_ ⟨_,Heap.get?_push_size _ rfl,rfl,rfl⟩
 exact I.fpOk (Nat.le_of_lt hsz) (I.hok.fresh (Nat.le_of_lt hsz))
open PySem PySem.W PyProof.Rows
open PySem PyProof.Rows
section
variable{K:PySem.W.Frag}{a D:Addr}{xs:List V}{b:Bool}{g:TG}{tc:TT}{tk tv:TE}{cap:List (Option Nat)}{σ:St}{H1:Hp}{Q:VK}
noncomputable def ItB(b:Bool)(K:PySem.W.Frag)(a:Addr):It:=match b with
 |true=>Itt K a
 |false=>Itl K a
noncomputable def iSeq(b:Bool)(K:PySem.W.Frag)(tl:TE):TI:=fun σ H R=>tl σ H fun x H1=>ExS x (fun a=>∃ xs,SqB b K H1 a xs) fun a=>R (ItB b K a) H1
theorem pi_seq{X:Cx}{tg l:Expr}{tl:TE}(b:Bool)(hl:PE X l tl):PI X tg l (iSeq b X.K tl):=by
 cases b
 ·exact pi_list hl
 ·exact pi_tup hl
theorem comp_seq{te:TE}{a:Addr}{xs:List V}(P:Nat->List V->Hp->Prop)(hz:xs.length<=sizeLine)(p0:P 0 [] H1)(hl:∀ i ys H,i<=xs.length->P i ys H->SqB b K H a xs)
  (hs:∀ i x ys H,xs[i]?=some x->P i ys H->g x (capt cap σ) H fun σ2 H2=>Kp (capt cap σ) σ2/\tc σ2 H2 fun b H3=>if b=true then te σ2 H3 fun y H4=>P (i+1) (ys++[y]) H4 else P (i+1) ys H3)
  (hd:∀ ys H,ys.length<=xs.length->P xs.length ys H->∀ D,H D=none->Q (.ref D) (upd H D (.lst ys))):compTurns (ItB b K a) cap σ H1 Q g tc te:=by
 cases b
 ·exact comp_list P hz p0 hl hs hd
 ·exact comp_tup P hz p0 hl hs hd
end
open PySem PySem.Spec PySem.W PyProof.Rows
theorem call_dict_copy{X:Cx}:CallR X (.type "dict") (fun xs H Q=>∃ a kvs,xs=[.ref a]/\H a=some (.dK kvs)/\∀ l,H l=none->Q (.ref l) (upd H l (.dK kvs))):=by
 intro pins s σ H xs us Q I r h
 obtain⟨a,kvs,rfl,ha,q⟩:=h
 obtain⟨u,rfl,ru⟩:=vals1 r
 cases ru
 obtain⟨hz,hs,vs,kv,hd⟩:=I.hok a _ ha
 refine kt_call_dict hs hd (by rw[<- kv.length];exact hz) fun h' hd' sb=>?_
 have kp:∀ b o,s.heap.get? b=some o->h'.get? b=some o:=fun b o e=>sb.extBut b o (Nat.ne_of_lt (Heap.lt_size e)) (Heap.get?_push_of_some _ e)
 exact⟨.ref s.heap.objs.size,_,I.laid (a:=s.heap.objs.size) (o:=.dK kvs) (t':=s.toks) kp (Nat.le_refl _) ⟨hz,beq_eq_false_iff_ne.mpr (Ne.symm (Nat.ne_of_lt I.big)),vs,kv,hd'⟩,rfl,q _ (I.hok.fresh (Nat.le_refl _))⟩
section
variable{X:Cx}{kx vx tg iter:Expr}{ifs:List Expr}{scope:Scope}{pos:Pos}{N':List Str}{cap:List (Option Nat)}{wi:TI}{g:TG}{tc:TT}{tk tv:TE}
theorem ps_dcomp{i:Nat}{x:Str}{pos' spos:Pos}(hN:X.N.Nodup)(hx:X.N[i]?=some x)(hl:Loc X.env.scope x)(t:Bool)(hu:X.A.units<cLine)(hc:X.calm=true)(S:CompScope N' cap X.N X.env.scope scope)(hi:PI X tg iter wi)(hg:∀ C s H fp,PG (cxIn X N' scope C s H fp) tg g)
  (ht:∀ C s H fp,PF (cxIn X N' scope C s H fp) ifs tc) (hk:∀ C s H fp,PE (cxIn X N' scope C s H fp) kx tk) (he:∀ C s H fp,PE (cxIn X N' scope C s H fp) vx tv)
  (hs:∀ x,foldedSetIterable iter X.env x=pure x:=by intro _;rfl) (hsw:swapsWith (.DictComp kx vx [⟨tg,iter,ifs,0⟩] scope pos) (some (.Name x pos')) spos.line X.env=pure true:=by rfl)
  (hf:X.fn x=true\/X.env.scope.names.lookup x=some .local:=by first | exact .inl rfl | exact .inr rfl | assumption) :
  PS X (.Assign [.Name x pos'] (.DictComp kx vx [⟨tg,iter,ifs,0⟩] scope pos) spos) (tAsg (tDComp t cap wi g tc tk tv) (gName i)):=by
 intro pins s σ H D I h
 rw[exec_Assign_Name_used _ _ _ _ hsw]
 refine wpAny_bind (wpAny_standAt (wpAny_bind ?_))
 show wpAny _ _ (do let _ <- comprehension (.DictComp kx vx [⟨tg,iter,ifs,0⟩] scope pos) scope X.env _ newDict false (eval iter X.env) (some (assign (.Name x pos') X.env))) _ _ s
 refine wpAny_bind (wpAny_mono (wpAny_comprehension_free (use:=some (assign (.Name x pos') X.env)) (Q:=fun _ s'=>SP X pins D .next s') rfl hs (closureFor_cells (S.clos I)) S.kind S.loc
  (thn (dcomp_run (pos:=pos) t hu hc S hi hg ht hk he I h) fun x s1 h1=>thn h1 fun it s2 h2=>thn h2 fun acc s3 h3=>thn h3 fun cenv s4 h4=>?_)) (fun _ s' hq=>wpAny_pure (wpAny_pure hq)) fun _ _ e=>e)
 refine codeAny_mono h4 fun r s' hr=>?_
 cases r with
 |error x=>exact hr.elim
 |ok f =>
  obtain⟨v,H',I',rv,q,⟨m,hn⟩,f0,f1,f2,f3,f4,f5⟩:=hr
  show wpAny _ _ (assign (.Name _ pos') X.env acc) _ _ _
  refine wpAny_assign_Name (store_ok2 I' hN hx hl rv (fun s'' I'' ⟨a,sb,ha⟩=>?_) hf)
  have hac:cenv.locals≠a:=by
   rcases ha with ha | ha
   ·rw[ha];exact f1
   ·exact Ne.symm (f4 _ a ha)
  refine⟨m,hn.sameBut sb hac,fun h' sb'=>⟨_,H',I''.turned (it:=cenv.locals) (t':=s''.toks) (fun b o hb e=>(sb'.2 b hb).trans e) f0 f1 f3 f4 f5,q⟩⟩
end
open PySem PySem.W PyProof.Rows Srt
theorem drawsK{prog:Program}{w:World}{A:Around}(hh:A.handled=none)(b:Bool)(it l:Addr)(hne:l≠it)(items:Array Value):Draws prog w A it [it,l] items.size (fun i v=>items[i]?=some v) (fun i h=>ItK b h it l i/\SeqK b h l items)where
 live:=fun _ _ st=>let ⟨o,ho,_⟩:=st.1.lt;⟨o,ho⟩
 frame:=fun _ _ _ st hk=>⟨st.1.to fun o e=>hk it (by simp) o e,st.2.to fun o e=>hk l (by simp) o e⟩
 item:=fun i s Q E hi st hQ=>nextK_item st.1 st.2 (x:=items[i]) (by simp[hi]) fun h' hit' hs'=>hQ _ h' s.toks (by simp[hi]) ⟨hit',st.2.to fun o e=>hs'.extBut _ _ hne e⟩ hs'
 done:=fun s Q E st hE=>nextK_end hh st.1 st.2 (by simp) hE
noncomputable abbrev enO(it:Addr):Obj:={ cls:=.type "enumerate",data:=.fields #[.none,.bool false,.ref it,rawInt 0,.none,.none] }
theorem enumK_new(b:Bool)(l:Addr)(xs:Array Value):Meets (Builtin.«enumerate.__new__» ⟨[.type "enumerate",.ref l],[]⟩) (fun _ R s=>SeqK b s.heap l xs/\R (.ok (.ret (.ref (s.heap.push (itO b l)).objs.size))) { s with heap:=(s.heap.push (itO b l)).push (enO s.heap.objs.size) }) :=
 .of_wp fun prog w A R s h=>by
  obtain⟨hp,g,d,tk,os⟩:=s
  obtain⟨hl,h⟩:=h
  have hsub:=sub_enumerate
  have hL:SeqK b (Shared.heap ⟨hp,g,d,tk,os⟩) l xs:=hl
  wp_walk using pyIterK hL
  refine wpAny_stack_any fun st=>wpAny_pure ?_
  split
  ·rename_i c _ _ _ _ _
   cases(c == Value.type "enumerate") <;> (wp_walk using pyIterK hL;exact⟨_,rfl,h⟩)
  ·wp_walk using pyIterK hL
   exact⟨_,rfl,h⟩
theorem call_enumK{prog:Program}{w:World}{A:Around}{E:Value->Shared->Prop}{s:Shared}{b:Bool}{l:Addr}{items:Array Value}{Q:Value->Shared->Prop}(hL:SeqK b s.heap l items)
  (h:∀ h',IsEnum h' (s.heap.objs.size+1) s.heap.objs.size 0 .none->ItK b h' s.heap.objs.size l 0->(∀ b o,s.heap.get? b=some o->h'.get? b=some o)->Q (.ref (s.heap.objs.size+1)) { s with heap:=h' }):wpAny (model prog w) A (call (.type "enumerate") [.ref l]) Q E s:=by
 refine callType_new F.called_enumerate (by decide) (F.typeCall_enumerate_1 _) (F.newCall_enumerate_1 _) (fun obj=>F.args_object_init_2 obj _) F.entry_enumerate_new (enumK_new b l items) ⟨hL,?_⟩
 have hz:(s.heap.push (itO b l)).objs.size=s.heap.objs.size+1:=Heap.size_push ..
 show _/\_
 rw[hz]
 have he:IsEnum ((s.heap.push (itO b l)).push (enO s.heap.objs.size)) (s.heap.objs.size+1) s.heap.objs.size 0 .none:=by
  have:=Heap.get?_push_size (s.heap.push (itO b l)) (o:=enO s.heap.objs.size) rfl
  rw[hz]at this
  exact this
 exact⟨⟨_,he,rfl⟩,h _ he ((ItK.new s.heap).to fun o e=>Heap.get?_push_of_some _ e) fun b o x=>Heap.get?_push_of_some _ (Heap.get?_push_of_some _ x)⟩
theorem enumK_end{prog:Program}{w:World}{A:Around}{E:Value->Shared->Prop}{s:Shared}{b:Bool}{e it l:Addr}{i:Nat}{items:Array Value}{old:Value}{Q:Option Value->Shared->Prop}(hh:A.handled=none)(he:IsEnum s.heap e it i old)(hit:ItK b s.heap it l i)(hl:SeqK b s.heap l items)(hx:items[i]?=none)
  (q:∀ g,Heap.ExtBut it s.heap g->Q none { s with heap:=g }):wpAny (model prog w) A (pyNext (.ref e)) Q E s:=by
 have ty:s.TypeIs (.ref e) "enumerate":=⟨_,he,rfl⟩
 unfold pyNext;refine wpAny_bind (wpAny_attempt (wpAny_callSpecial?_slot (name:=Str.ofString "__next__") ty F.slot_enumerate_next (wpAny_call_entry F.slot_enumerate_next ty F.entry_enumerate_next ?_ (F.args_enumerate_next_1 _))))
 show wpAny _ _ (field (.ref e) 2 >>= _) _ _ _;refine wpAny_bind (wpAny_field he rfl (x:=.ref it) rfl (wpAny_bind (nextK_end hh hit hl hx fun g y hg hy=>?_)))
 obtain⟨o,ho,hc⟩:=hy
 refine wpAny_bind (wpAny_isInstance (T:="StopIteration") (b:=true) ⟨o,ho,hc⟩ isSubtype_stop (wpAny_pure (q _ hg)))
noncomputable def IteB(b:Bool)(K:PySem.W.Frag)(l:Addr):It :=
  ⟨fun i H=>∃ xs x,SqB b K H l xs/\xs[i]?=some x,
   fun i H v H'=>∃ T x,v = .ref T/\H T=none/\H'=upd H T (.tup [.int i,x])/\∀ xs,SqB b K H l xs->xs[i]?=some x,
   fun i H=>∃ xs,SqB b K H l xs/\xs.length<=i⟩
theorem turn_enumB(b:Bool){P:Program}{w:World}{K:PySem.W.Frag}{es:List Expr}{kk:Nat}{pos:Pos}(e it l:Addr)(ne:e≠it):Turn P w K (.Tuple es kk pos) (IteB b K l) [e,it] e
  (fun i h=>(∃ old,IsEnum h e it i old)/\ItK b h it l i)where
 mem:=by simp
 obj:=fun i h st b hb=>by
  obtain⟨⟨old,he⟩,h1⟩:=st
  simp only[List.mem_cons,or_false,List.not_mem_nil]at hb
  rcases hb with z | z
  ·rw[z];exact⟨_,he,fun v z=>by cases z⟩
  ·rw[z]
   exact h1.lt
 keep:=fun i h h' st k=>by
  obtain⟨⟨old,he⟩,h1⟩:=st
  exact⟨⟨old,k e (by simp) _ he⟩,h1.to fun o e=>k it (by simp) o e⟩
 item:=by
  intro X hP hw hK hc i pins s σ H E I hf st hg
  subst hP hw hK
  obtain⟨⟨old,he⟩,h1⟩:=st
  obtain⟨xs,x,q1,hx⟩:=hg
  obtain⟨us,r1,p1,_⟩:=I.seqB q1
  obtain⟨u,hu,ru⟩:=r1.get hx
  have hn:H s.heap.objs.size=none:=I.hok.fresh (Nat.le_refl _)
  have lit:l≠it:=I.offB q1 (hf it (by simp))
  have lee:l≠e:=I.offB q1 (hf e (by simp))
  have hlt:i<us.toArray.size:=by rw[List.size_toArray];exact(List.getElem?_eq_some_iff.mp hu).1
  refine wpAny_pyNext_enum_itemD (drawsK (A:=X.A.in1) (I.ok.hd hc) b it l lit us.toArray) he ⟨h1,p1⟩ hlt ne (by simp[ne,Ne.symm lee]) fun u' g tk hP e1 st1 t1 sz kp=>⟨_,rfl,?_⟩
  have eu:u'=u:=by
   have hP:us.toArray[i]?=some u':=hP
   rw[List.getElem?_toArray,hu]at hP
   exact(Option.some.inj hP).symm
  subst eu
  have n1:=st1.1
  refine wpAny_letOwnedTupleGo_enum e1 fun g' e2 sb=>?_
  have zlt:e≠s.heap.objs.size:=Nat.ne_of_lt (Heap.lt_size he)
  have kp2:∀ b o,b∉[e,it]->s.heap.get? b=some o->g'.get? b=some o:=fun b o nb z=>by
   simp only[List.mem_cons,List.not_mem_nil,or_false,not_or]at nb
   exact sb.extBut _ _ nb.1 (kp b o nb.1 nb.2 z)
  have I2:Inv X pins σ (upd H s.heap.objs.size (.tup [.int i,x])) { s with heap:=g',toks:=tk+1 }:=I.turnedN (t':=tk+1) (ch:=[e,it]) (a:=s.heap.objs.size) (ob:=.tup [.int i,x]) hf kp2 (Nat.le_refl _) (show ObjOk X.prog X.w _ g' _ (.tup [.int i,x])from⟨by show 2<=sizeLine;decide,[.int i tk,u'],.cons ⟨_,rfl⟩ (.cons ru .nil),⟨_,sb.extBut _ _ (Ne.symm zlt) t1,rfl,0,rfl⟩⟩)
  refine⟨.ref s.heap.objs.size,_,I2,rfl,⟨_,x,rfl,hn,rfl,fun xs' h=>by rw[I.seqB_inj h q1];exact hx⟩,⟨⟨_,by have e3:=e2;exact_mod_cast e3⟩,n1.to fun o z=>sb.extBut _ _ (Ne.symm ne) z⟩,fun b hb=>?_⟩
  have bo:∃ o,s.heap.get? b=some o:=by
   simp only[List.mem_cons,or_false,List.not_mem_nil]at hb
   rcases hb with z | z
   ·rw[z];exact⟨_,he⟩
   ·rw[z];obtain⟨o,e,_⟩:=h1.lt;exact⟨o,e⟩
  obtain⟨o,z⟩:=bo
  rw[upd_ne (Nat.ne_of_lt (Heap.lt_size z))]
  exact(hf b hb).1
 done:=by
  intro X hP hw hK hc i pins s σ H E I hf st hg
  subst hP hw hK
  obtain⟨⟨old,he⟩,h1⟩:=st
  obtain⟨xs,q1,le⟩:=hg
  obtain⟨us,r1,p1,_⟩:=I.seqB q1
  have e1:=r1.length
  refine enumK_end (I.ok.hd hc) he h1 p1 (by simp;lia) fun g kp=>⟨rfl,?_⟩
  refine I.turnedL (t':=s.toks) (ch:=[e,it]) hf fun b o nb z=>?_
  simp only[List.mem_cons,List.not_mem_nil,or_false,not_or]at nb
  exact kp b o nb.2 z
 self:=fun _ _ _ _ _ st h=>by
  obtain⟨⟨old,he⟩,h1⟩:=st
  exact wpAny_pyIter_enum he h
noncomputable def iEnumB(b:Bool)(K:PySem.W.Frag)(ta:TA):TI:=fun σ H R=>ta σ H fun vs H1=>∃ l,vs=[.ref l]/\(∃ xs,SqB b K H1 l xs)/\R (IteB b K l) H1
theorem pi_enumB(b:Bool){X:Cx}{es:List Expr}{kk:Nat}{tpos:Pos}{a:Expr}{ta:TA}{p pos:Pos}(hg:Gl X "enumerate")(hm:X.mg "enumerate" = none)(ha:PA X [a] ta)(hs:starEach [a] X.env=[(false,eval a X.env)]:=by rfl) :
  PI X (.Tuple es kk tpos) (.Call (.Name "enumerate" p) [a] [] pos) (iEnumB b X.K ta):=by
 intro pins s σ H R I h
 refine Call_ (ld_blt I hg hm boot_enumerate (PyProof.Rows.callWith_type1 (thn (ha pos pins s σ H _ I h) fun us s1 ⟨vs,H1,I1,r1,q1⟩=>?_) (by rw[hs];rfl) (by rfl)))
 obtain⟨l,e,⟨xs,q1⟩,q⟩:=q1
 subst e
 obtain⟨u,rfl,rx⟩:=Vals.one r1
 cases rx
 obtain⟨us,_,p1,_⟩:=I1.seqB q1
 refine call_enumK p1 fun g' e1 h1 kp=>?_
 refine wpAny_pyIter_enum e1 ⟨s1.heap.objs.size+1,_,_,_,H1,rfl,I1.kept (t':=s1.toks) kp,turn_enumB b _ s1.heap.objs.size l (Nat.ne_of_gt (Nat.lt_succ_self _)),⟨⟨_,e1⟩,h1⟩,fun b hb=>?_,q⟩
 have le:s1.heap.objs.size<=b:=by
  simp only[List.mem_cons,or_false,List.not_mem_nil]at hb
  rcases hb with e | e
  ·rw[e];exact Nat.le_add_right _ 1
  ·rw[e];exact Nat.le_refl _
 exact I1.fpOk le (I1.hok.fresh le)
section
variable{b:Bool}{K:PySem.W.Frag}{l D:Addr}{xs:List V}{g:TG}{tc:TT}{tk tv:TE}{cap:List (Option Nat)}{σ:St}{H1:Hp}{Q:VK}
theorem dcomp_enumB(P:Nat->Hp->Prop)(p0:P 0 H1)(hl:∀ i H,i<=xs.length->P i H->SqB b K H l xs)
  (hs:∀ i x H T,xs[i]?=some x->P i H->H T=none->g (.ref T) (capt cap σ) (upd H T (.tup [.int i,x])) fun σ2 H2=>Kp (capt cap σ) σ2/\tc σ2 H2 fun z H3=>if z=true then tk σ2 H3 fun k H4=>tv σ2 H4 fun y H5=>∃ H6,DPut H5 D k y H6/\P (i+1) H6 else P (i+1) H3)
  (hd:∀ H,P xs.length H->Q (.ref D) H):dcompTurns (IteB b K l) cap σ H1 D Q g tc tk tv:=by
 refine⟨xs.length,P,p0,fun i H il p=>?_⟩
 have q:=hl i H il p
 by_cases hlt:i<xs.length
 ·refine .inr ⟨hlt,⟨xs,xs[i],q,by simp[hlt]⟩,fun x H' y=>?_⟩
  obtain⟨T,x',e1,hT,e2,y⟩:=y
  subst e1
  subst e2
  exact hs i x' H T (y xs q) p hT
 ·have e:i=xs.length:=by omega
  subst e
  exact .inl ⟨⟨xs,q,Nat.le_refl _⟩,hd H p⟩
end
end L2
namespace Srt
open PySem PySem.W PyProof.Rows
@[reducible] noncomputable def κI:KeyKind where
 α:=Int
 blt a b:=decide (a<b)
 irrefl a:=by simp
 trans a b c h k:=by simp at h k ⊢;lia
 negTrans a b c h:=by simp at h ⊢;lia
 total a b h k:=by simp at h k;lia
 keyOf v:=match v with
  | .int i _=>some i
  | _=>none
 dflt:=(0:Int)
theorem κI_of{v:Value}{i:Int}(h:κI.keyOf v=some i):∃ t,v = .int i t:=by
 cases v with
 |int j t =>
  have e:j=i:=Option.some.inj h
  subst e
  exact⟨t,rfl⟩
 | _=>cases h
theorem ltI_ok{prog:Program}{w:World}{A:Around}{s:Shared}:LtOk κI oneType' prog w A s:=by
 intro E x y a b Q st hk ha hb q
 obtain⟨t,e1⟩:=κI_of ha
 obtain⟨u,e2⟩:=κI_of hb
 rw[lt'_eq]
 refine wpS_bind (wpS_get ?_)
 rw[hk,keyLt'_oneType,e1,e2]
 refine wpS_bind (wpS_lift (wpAny_attempt (oneLt_int ⟨rfl,?_⟩)))
 exact wpS_pure q
end Srt
namespace L2
open PySem PySem.W PyProof.Rows Srt
section
variable{X:Cx}{pins:List (Addr×Obj)}{σ:St}{H:Hp}{s:Shared}
theorem collect_kept{g:Heap}{vs:List Value}:∀ b u,g.get? b=some u->((g.push (seqObj "list" #[] 0)).update g.objs.size (Obj.mapSeq (·++vs.toArray))).get? b=some u:=fun b u e=>by
 rw[Heap.get?_update_ne _ _ _ _ (Nat.ne_of_lt (Heap.lt_size e))]
 exact Heap.get?_push_of_some _ e
theorem call_sortedT:CallR X (.builtin "sorted") (fun xs H Q=>∃ l as ks,xs=[V.ref l]/\SqL X.K H l (List.map V.ref as)/\TupsAt H as ks/\(∀ k∈ks,k≠[])/\as.length<64 /\
  ∀ (l':Addr) (bs:List Addr) (ns:List (List Int)),H l'=none->ns.Perm ks->ns.Pairwise (fun x y=>lexlt y x=false)->TupsAt H bs ns->Q (.ref l') (upd H l' (.lst (bs.map V.ref)))):=by
 intro pins s σ H xs us Q I r h
 obtain⟨l,as,ks,rfl,hq,ht,hne,hlen,q⟩:=h
 obtain⟨u,rfl,rx⟩:=vals1 r
 cases rx
 obtain⟨its,r',pl,hz⟩:=I.list hq
 have er:=refs_of r'
 subst er
 refine Calls.call_function_entry kind_sorted plain_sorted entry_sorted (args_sorted1 _) ?_
 unfold Builtin.«sorted»
 refine wpAny_bind (m:=checkCount "sorted" 1 1 _) (wpAny_pure (wpAny_bind (collect_list pl.isList ?_ (by rw[List.length_map,sizeLine_eq];lia))))
 generalize hh':(s.heap.push (seqObj "list" #[] 0)).update s.heap.objs.size (Obj.mapSeq (·++(as.map Value.ref).toArray))=h'
 have kp:∀ b u,s.heap.get? b=some u->h'.get? b=some u:=hh'▸collect_kept
 refine wpAny_bind (wpAny_newList ?_ (by rw[List.length_map,sizeLine_eq];lia))
 have gL:(h'.push (seqObj "list" (as.map Value.ref).toArray 0)).get? h'.objs.size=some (seqObj "list" (as.map Value.ref).toArray 0):=Heap.get?_push_size _ rfl
 have I1:Inv X pins σ H { s with heap:=h' }:=I.kept (t':=s.toks) kp
 have kp2:∀ b u,h'.get? b=some u->(h'.push (seqObj "list" (as.map Value.ref).toArray 0)).get? b=some u:=fun b u e=>Heap.get?_push_of_some _ e
 have zipne:∀ {as:List Addr}{ks:List (List Int)},TupsAt H as ks->(∀ k∈ks,k≠[])->Paired (fun a k=>H a=some (.tup (List.map V.int k))/\k≠[]) as ks:=by
  intro as ks h
  induction h with
  |nil=>intro _;exact .nil
  |cons r _ ih=>intro hn;exact .cons ⟨r,hn _ (List.mem_cons_self ..)⟩ (ih fun k hk=>hn k (List.mem_cons_of_mem _ hk))
 have tT:Paired (fun a k=>TupI (h'.push (seqObj "list" (as.map Value.ref).toArray 0)) (.ref a) k/\k≠[]) as ks:=Paired.mapP (zipne ht hne) fun a k z=>⟨(tupI_of I1 z.1).to fun b u _ e=>kp2 b u e,z.2⟩
 have memH:=tups_mem ht
 refine wpAny_bind (wpAny_holding (wpAny_call_entry slot_list_sort ⟨_,gL,rfl⟩ entry_list_sort (sort_new (X:=X) (s:={ s with heap:=h'.push (seqObj "list" (as.map Value.ref).toArray 0) }) gL tT hlen fun bs ns g c pb pn pw pt kp3 gg=>⟨_,rfl,?_⟩) (args_list_sort _)))
 refine wpAny_pure ⟨_,rfl,.ref h'.objs.size,_,I1.laid (t':=s.toks) (a:=h'.objs.size) (o:=.lst (bs.map V.ref)) (fun b u e=>kp3 b u (Nat.ne_of_lt (Heap.lt_size e)) (kp2 b u e)) (Nat.le_refl _) (show ObjOk X.prog X.w _ g _ (.lst (bs.map V.ref))from⟨?_,bs.map Value.ref,c,?_,gg⟩),rfl,q _ bs ns (I1.hok.fresh (Nat.le_refl _)) pn pw ?_⟩
 ·rw[List.length_map,pb.length_eq,sizeLine_eq];lia
 ·clear pb pt gg
  induction bs with
  |nil=>exact .nil
  |cons b bs ih=>exact .cons rfl ih
 ·have memB:∀ a∈bs,∃ k:List Int,H a=some (.tup (k.map V.int)):=fun a ha=>memH a (pb.mem_iff.mp ha)
  clear pb gg pn pw
  induction pt with
  |nil=>exact .nil
  | @cons a k l1 l2 r1 _ ih =>
   refine .cons ?_ (ih fun a ha=>memB a (List.mem_cons_of_mem _ ha))
   obtain⟨k',e⟩:=memB a (List.mem_cons_self ..)
   rw[e,r1.inj ((tupI_of I1 e).to fun b u _ z=>kp2 b u z)]
theorem ints_perm:∀ {ws vs:List Value}{ns:List Int},ws.Perm vs->Vals (ns.map V.int) vs->∃ ms:List Int,Vals (ms.map V.int) ws/\ms.Perm ns:=by
 intro ws vs ns hp r
 have hI:=intsAre_of r
 have all:∀ v∈vs,∃ i t,v=Value.int i t:=by
  intro v hv
  obtain⟨j,hj,e⟩:=List.getElem_of_mem hv
  have l:=r.length
  rw[List.length_map]at l
  obtain⟨u,e2,t,e3⟩:=r.get (i:=j) (x:=V.int (ns[j]'(by lia))) (by rw[List.getElem?_map,List.getElem?_eq_getElem (by lia)];rfl)
  rw[List.getElem?_eq_getElem hj,e]at e2
  cases e2
  exact⟨_,t,e3⟩
 let f:Value->Int:=fun v=>match v with
  | .int i _=>i
  | _=>0
 have key:∀ {us:List Value}{ks:List Int},Vals (ks.map V.int) us->us.map f=ks:=by
  intro us
  induction us with
  |nil=>intro ks r;cases ks with
   |nil=>rfl
   |cons _ _=>cases r
  |cons u us ih=>intro ks r;cases ks with
   |nil=>cases r
   |cons k ks =>
    cases r with
    |cons r1 r2 =>
     obtain⟨t,e⟩:=r1
     rw[List.map_cons,ih r2,e]
 refine⟨ws.map f,?_,?_⟩
 ·have all':∀ v∈ws,∃ i t,v=Value.int i t:=fun v hv=>all v (hp.mem_iff.mp hv)
  clear hp
  induction ws with
  |nil=>exact .nil
  |cons w ws ih =>
   obtain⟨i,t,e⟩:=all' w (List.mem_cons_self ..)
   refine .cons ⟨t,by rw[e]⟩ (ih fun v hv=>all' v (List.mem_cons_of_mem _ hv))
 ·rw[<- key r]
  exact hp.map f
theorem call_sortedI:CallR X (.builtin "sorted") (fun xs H Q=>∃ (l:Addr) (ns:List Int),xs=[V.ref l]/\SqL X.K H l (ns.map V.int)/\ns.length<64 /\
  ∀ (l':Addr) (ms:List Int),H l'=none->ms.Perm ns->ms.Pairwise (·<=·)->Q (.ref l') (upd H l' (.lst (ms.map V.int)))):=by
 intro pins s σ H xs us Q I r h
 obtain⟨l,ns,rfl,hq,hlen,q⟩:=h
 obtain⟨u,rfl,rx⟩:=vals1 r
 cases rx
 obtain⟨its,r',pl,hz⟩:=I.list hq
 have li:=r'.length
 rw[List.length_map]at li
 refine Calls.call_function_entry kind_sorted plain_sorted entry_sorted (args_sorted1 _) ?_
 unfold Builtin.«sorted»
 refine wpAny_bind (m:=checkCount "sorted" 1 1 _) (wpAny_pure (wpAny_bind (collect_list pl.isList ?_ (by rw[sizeLine_eq];lia))))
 generalize hh':(s.heap.push (seqObj "list" #[] 0)).update s.heap.objs.size (Obj.mapSeq (·++its.toArray))=h'
 have kp:∀ b u,s.heap.get? b=some u->h'.get? b=some u:=hh'▸collect_kept
 refine wpAny_bind (wpAny_newList ?_ (by rw[sizeLine_eq];lia))
 have gL:(h'.push (seqObj "list" its.toArray 0)).get? h'.objs.size=some (seqObj "list" its.toArray 0):=Heap.get?_push_size _ rfl
 have I1:Inv X pins σ H { s with heap:=h' }:=I.kept (t':=s.toks) kp
 have kp2:∀ b u,h'.get? b=some u->(h'.push (seqObj "list" its.toArray 0)).get? b=some u:=fun b u e=>Heap.get?_push_of_some _ e
 have hI:=intsAre_of r'
 have keys:KeysOf κI (pairsOf its):=fun p hp=>by
  rw[pairsOf_toList]at hp
  obtain⟨e1,e2⟩:=Srt.mem_zip_self hp
  obtain⟨j,hj,e⟩:=List.getElem_of_mem e2
  obtain⟨u,g1,t,g2⟩:=r'.get (i:=j) (x:=V.int (ns[j]'(by lia))) (by rw[List.getElem?_map,List.getElem?_eq_getElem (by lia)];rfl)
  rw[List.getElem?_eq_getElem hj,e]at g1
  cases g1
  rw[e1,g2]
  exact⟨_,rfl⟩
 refine wpAny_bind (wpAny_holding (wpAny_call_entry slot_list_sort ⟨_,gL,rfl⟩ entry_list_sort (sort_at (κ:=κI) (kd:=oneType') gL keys (by lia) (fun l2 g k=>⟨ltI_ok,fun R hR=>?_⟩) fun ws g c pw sw kp3 gg=>⟨_,rfl,?_⟩) (args_list_sort _)))
 ·match its,hI,l2 with
  |v1 :: v2 :: rest,hI,_ =>
   rw[keyKind_ints hI]
   exact wpAny_pure hR
  |[],_,l2=>simp at l2
  |[_],_,l2=>simp at l2
 ·obtain⟨ms,rm,pm⟩:=ints_perm pw r'
  have lw:=rm.length
  rw[List.length_map]at lw
  refine wpAny_pure ⟨_,rfl,.ref h'.objs.size,_,I1.laid (t':=s.toks) (a:=h'.objs.size) (o:=.lst (ms.map V.int)) (fun b u e=>kp3 b u (Nat.ne_of_lt (Heap.lt_size e)) (kp2 b u e)) (Nat.le_refl _) (show ObjOk X.prog X.w _ g _ (.lst (ms.map V.int))from⟨?_,ws,c,rm,gg⟩),rfl,q _ ms (I1.hok.fresh (Nat.le_refl _)) pm ?_⟩
  ·rw[List.length_map,pm.length_eq,sizeLine_eq];lia
  ·rw[List.pairwise_iff_getElem]
   intro i j hi hj ij
   have z:=sw i j (Nat.le_of_lt ij) (by lia)
   have kk:∀ m (hm:m<ms.length),KK κI (pairsOf ws) m=ms[m]:=fun m hm=>by
    obtain⟨u,g1,t,g2⟩:=rm.get (i:=m) (x:=V.int ms[m]) (by rw[List.getElem?_map,List.getElem?_eq_getElem hm];rfl)
    have e:(pairsOf ws)[m]?=some (u,u):=by
     have hm':m<ws.length:=by lia
     have:ws[m]=u:=by rw[List.getElem?_eq_getElem hm']at g1;exact Option.some.inj g1
     simp[pairsOf,hm',this]
    unfold KK
    rw[e,g2]
    rfl
   rw[kk i hi,kk j hj]at z
   have z':decide (ms[j]<ms[i])=false:=z
   have:=of_decide_eq_false z'
   lia
end
open PySem PySem.W PyProof.Rows
section
variable{X:Cx}
theorem best_of{ns:List Int}{ys:Array (Int×Tok)}(e1:ns=ys.toList.map (·.1))(hs:0<ys.size){v:Value}(hv:(intItems ys)[argBest (fun i j=>decide (numAt ys i > numAt ys j)) (ys.size-1)]?=some v) :
  ∃ (m:Int) (t:Tok),v = .int m t/\m∈ns/\∀ a∈ns,a<=m:=by
 obtain⟨tk,rfl⟩:=intItems_at hv
 have best:=argBest_gt (numAt ys) (ys.size-1)
 have len:(ys.toList.map (·.1)).length=ys.size:=by simp
 refine⟨_,tk,rfl,?_,fun a ha=>?_⟩
 ·have:=best.1
  rw[numAt_eq,e1]
  exact getD_mem (by omega)
 ·subst e1
  obtain⟨i,hi,z⟩:=mem_getD ha
  have top:=best.2 i (by lia)
  rw[numAt_eq ys i,z]at top
  exact top
theorem call_maxL(hc:X.calm=true):CallR X (.builtin "max") (fun xs H Q=>∃ (l:Addr) (ns:List Int),xs=[V.ref l]/\SqL X.K H l (ns.map V.int)/\ns≠[]/\∀ m:Int,m∈ns->(∀ a∈ns,a<=m)->Q (.int m) H):=by
 intro pins s σ H xs us Q I r h
 obtain⟨l,ns,rfl,hq,hne,q⟩:=h
 obtain⟨u,rfl,rx⟩:=vals1 r
 cases rx
 obtain⟨its,r',pl,hz⟩:=I.list hq
 have hi:=intsAre_of r'
 obtain⟨ys,hx⟩:=hi.allInts.items
 have e1:ns=ys.toList.map (·.1):=by
  rw[<- nums_intItems,<- hx]
  exact(show numsOf its.toArray.toList=ns from hi.numsOf).symm
 have hs:0<ys.size:=by
  have:=List.length_pos_iff.mpr hne
  rw[e1,List.length_map,Array.length_toList]at this
  exact this
 refine max_intList (I.ok.hd hc) (hx▸pl.isList) hs fun v h' tk hv hk=>?_
 obtain⟨m,t,rfl,hm,hb⟩:=best_of e1 hs hv
 exact⟨.int m,H,I.kept hk,⟨t,rfl⟩,q m hm hb⟩
end
open PySem PySem.W PyProof.Rows Srt
theorem keys_of_pairs{P:Program}{w:World}{es:List DictEntry}{kvs:List (Key×V)}{vs:List (Key×Value)}(h:Pairs (mixKind P w) es vs)(r:KV kvs vs):Vals (kvs.map fun kv=>kV kv.1) (es.map fun r=>r.key):=by
 induction h generalizing kvs with
 |nil=>cases r;exact .nil
 | @cons e q es vs h1 h2 h3 ih =>
  cases r with
  | @cons kv _ kvs _ r1 r2 =>
   refine .cons ?_ (ih r2)
   show RelV (kV kv.1) e.key
   rw[r1.1]
   have h1:keyIs q.1 e.key=true:=h1
   rcases keyIs_shape h1 with⟨i,t,e1,e2⟩ |⟨x,t,e1,e2⟩
   ·rw[e1,e2];exact⟨t,rfl⟩
   ·rw[e1,e2];exact⟨t,rfl⟩
theorem raw_of{P:Program}{w:World}{h:Heap}{d:Addr}{kvs:List (Key×V)}{vs:List (Key×Value)}(r:KV kvs vs)(m:h.DictOf (mixKind P w) d vs):∃ o ep us,h.get? d=some o/\(∀ g:Heap,g.get? d=some o->RawD d us ep g)/\Vals (kvs.map fun kv=>kV kv.1) us:=by
 obtain⟨o,es,ep,e,x,dt,_,ps,_⟩:=m
 exact⟨o,ep,_,e,fun g eg=>⟨o,es,eg,x,dt,rfl⟩,keys_of_pairs ps r⟩
open PySem PySem.W PyProof.Rows HT
section
variable{X:Cx}
inductive rInsertI(x:V)(vs:List V)(H:Hp)(Q:VK):Prop where
 |mk (l:Addr) (xs:List V) (i:Int) (y:V) (h1:x = .ref l) (h2:vs=[.int i,y]) (h3:H l=some (.lst xs)) (h4:0<=i) (h5:i<=xs.length) (h6:xs.length<sizeLine) (h7:Q .non (upd H l (.lst (xs.take i.toNat++y :: xs.drop i.toNat))))
noncomputable def rInsert:V->List V->Hp->VK->Prop:=fun x vs H Q=>rInsertI x vs H Q
theorem mt_insert:MtM X "list.insert" rInsert:=by
 intro pins s σ H x vs v us Q I rx rv h
 obtain⟨l,xs,i,y,rfl,rfl,hH,h0,hk,hz,q⟩:=h
 cases rx
 obtain⟨u,u2,rfl,ru,ru2⟩:=rv.two
 obtain⟨t,rfl⟩:=ru
 obtain⟨z,its,n,r,hl,e⟩:=I.lstM hH
 have zl:=sizeLine_eq
 have hf:Builtin.List.listFitsIndex i=true:=fitsIndex_both (by lia) (by lia)
 refine call_meets F.slot_list_insert ⟨_,e,rfl⟩ F.entry_list_insert (F.args_list_insert_3 _ _ _) (PySem.AutoSeq1.list_insert_list_int_val_1 l _ n i t u2 (by simp[hf]) (by rw[List.size_toArray];lia)) ⟨e,?_⟩
 refine⟨.non,_,I.lset (its':=its.take i.toNat++u2 :: its.drop i.toNat) hH e ?_ ((Vals.take i.toNat r).append (.cons ru2 (Vals.drop i.toNat r))) ?_,rfl,q⟩
 ·have e2:(if i<0 then(i+(its.toArray.size:Int)).toNat else min i.toNat its.toArray.size)=i.toNat:=by
   rw[if_neg (by lia),List.size_toArray]
   lia
  show(its.toArray.extract 0 (if i<0 then(i+(its.toArray.size:Int)).toNat else min i.toNat its.toArray.size)).push u2++its.toArray.extract (if i<0 then(i+(its.toArray.size:Int)).toNat else min i.toNat its.toArray.size)=_
  rw[e2]
  apply Array.ext'
  simp[List.take_take]
  exact List.take_of_length_le (by rw[List.length_drop];exact Nat.le_refl _)
 ·rw[List.length_append,List.length_cons,List.length_take,List.length_drop]
  omega
inductive rCatAI(K:PySem.W.Frag)(x:V)(y:V)(H:Hp)(Q:VK):Prop where
 |mk (a:_) (b:_) (xs:_) (ys:_) (h1:x = .ref a) (h2:y = .ref b) (h3:SqT K H a xs) (h4:SqT K H b ys) (h5:xs.length+ys.length<=sizeLine) (h6:(xs=[]->Q (.ref b) H)) (h7:(xs≠[]->ys=[]->Q (.ref a) H)) (h8:(xs≠[]->ys≠[]->∀ p,H p=none->Q (.ref p) (upd H p (.tup (xs++ys)))))
noncomputable def rCatA(K:PySem.W.Frag):R2:=fun x y H Q=>rCatAI K x y H Q
theorem op_catA:OpR X (binaryOp .Add) (rCatA X.K):=by
 intro pins s σ H x y v u Q I rx ry h
 obtain⟨a,b,xs,ys,rfl,rfl,ha,hb,hz,q1,q2,q3⟩:=h
 by_cases e:xs=[]
 ·subst e
  cases rx
  cases ry
  obtain⟨us,r1,p1,_⟩:=I.tuple ha
  obtain⟨ws,r2,p2,_⟩:=I.tuple hb
  cases r1
  obtain⟨⟨cls,dd,data,sl⟩,ho,hc,n,hd⟩:=p1
  obtain⟨⟨cls2,dd2,data2,sl2⟩,ho2,hc2,n2,hd2⟩:=p2
  simp only at hc hd hc2 hd2
  subst hc hd hc2 hd2
  exact concat_meets ⟨_,ho,rfl⟩ ⟨_,ho2,rfl⟩ noFill_tuple_add seq_tuple_add PySem.F.slot_tuple_add PySem.F.entry_tuple_add (PySem.F.args_tuple_add_2 _ _)
   (tuple_addW0 a b #[] ws.toArray n n2 dd dd2 sl sl2 rfl) ⟨ho,ho2,⟨.ref b,H,I,rfl,q1 rfl⟩⟩
 ·refine op_catT pins s σ H _ _ v u Q I rx ry ⟨a,b,xs,ys,rfl,rfl,ha,hb,e,hz,?_⟩
  exact⟨q2 e,q3 e⟩
end
end L2
namespace SetA
open PySem
open PySem
open PySem
open PySem
open PySem
open PySem
open PySem
open PySem
open PySem
open PySem L2
open PySem L2
open PySem L2
open PySem PySem.W PyProof.Rows
theorem cut_perm{α:Type}:∀ (i:Nat) (l:List α) (h:i<l.length),(l[i] :: l.eraseIdx i).Perm l
 | 0,_ :: _,_=>.refl _
 |i+1,x :: l,h=>by
  show(l[i]'(Nat.lt_of_succ_lt_succ h) :: x :: l.eraseIdx i).Perm _
  exact(List.Perm.swap _ _ _).trans ((cut_perm i l (Nat.lt_of_succ_lt_succ h)).cons x)
end SetA
namespace L2
open PySem PySem.W PyProof.Rows Srt SetA
open PySem PySem.W PyProof.Rows Srt
open PySem PySem.W PyProof.Rows Srt
noncomputable def nubF(σ:List Int)(ns:List Int):List Int:=ns.foldl step_dedup σ
noncomputable abbrev nub(ns:List Int):List Int:=nubF [] ns
theorem step_nub(σ:List Int)(v:Int):step_dedup σ v=if v∈σ then σ else σ++[v]:=by
 unfold step_dedup
 by_cases h:v∈σ
 ·rw[if_pos h,if_pos (List.any_eq_true.mpr ⟨v,h,by simp⟩)]
 ·rw[if_neg h,if_neg fun z=>by
   obtain⟨x,hx,e⟩:=List.any_eq_true.mp z
   rw[show v=x by simpa using(beq_iff_eq.mp e).symm]at h
   exact h hx]
theorem nubF_spec:∀ (ns σ:List Int),σ.Nodup->(nubF σ ns).Nodup/\(∀ x,x∈nubF σ ns↔x∈σ\/x∈ns)/\(nubF σ ns).length<=σ.length+ns.length/\((nubF σ ns).length=σ.length+ns.length↔(σ++ns).Nodup)
 |[],σ,h=>⟨h,fun x=>⟨.inl,fun z=>z.elim id (fun y=>nomatch y)⟩,Nat.le_refl _,⟨fun _=>by rw[List.append_nil];exact h,fun _=>rfl⟩⟩
 |v :: ns,σ,h=>by
  show(nubF (step_dedup σ v) ns).Nodup/\_
  have e:nubF σ (v :: ns)=nubF (step_dedup σ v) ns:=rfl
  rw[e,step_nub]
  by_cases hv:v∈σ
  ·rw[if_pos hv]
   obtain⟨i1,i2,i3,i4⟩:=nubF_spec ns σ h
   refine⟨i1,fun x=>?_,by rw[List.length_cons];lia,?_⟩
   ·rw[i2 x,List.mem_cons]
    exact⟨fun z=>z.elim .inl (fun y=>.inr (.inr y)),fun z=>z.elim .inl (fun y=>y.elim (fun q=>.inl (q▸hv)) .inr)⟩
   ·rw[List.length_cons]
    refine⟨fun z=>by lia,fun z=>?_⟩
    exact absurd rfl ((List.nodup_append.mp z).2.2 v hv v (List.mem_cons_self ..))
  ·rw[if_neg hv]
   have h':(σ++[v]).Nodup:=List.nodup_append.mpr ⟨h,by simp,fun a ha b hb=>by
    rw[List.mem_singleton.mp hb]
    exact fun z=>hv (z▸ha)⟩
   obtain⟨i1,i2,i3,i4⟩:=nubF_spec ns (σ++[v]) h'
   rw[List.length_append,List.length_singleton]at i3 i4
   refine⟨i1,fun x=>?_,by rw[List.length_cons];lia,?_⟩
   ·rw[i2 x,List.mem_append,List.mem_singleton,List.mem_cons,or_assoc]
   ·rw[List.length_cons,show σ++v :: ns=σ++[v]++ns by simp,<- i4]
    lia
theorem mem_nub(ns:List Int)(x:Int):x∈nub ns↔x∈ns:=by
 have:=(nubF_spec ns [] List.nodup_nil).2.1 x
 simpa using this
noncomputable def setI(ns:List Int):HO:=.set (fun k=>decide (k∈nub ns)) (nub ns).length
section
variable{X:Cx}
theorem call_lenS:CallR X (.builtin "len") (fun xs H Q=>∃ a ns,xs=[V.ref a]/\H a=some (setI ns)/\Q (.int (nub ns).length) H):=by
 intro pins s σ H xs us Q I r h
 obtain⟨a,ns,rfl,ha,q⟩:=h
 obtain⟨u,rfl,ru⟩:=vals1 r
 cases ru
 have x:s.heap.SetOf (intKind X.prog X.w) a _ _:=I.hok a _ ha
 obtain⟨o,es,ep,t,ho,hex,hd,_,_,hb,hf,hn⟩:=x
 refine call_len_set ho hex hd hf (by unfold scanBound at hb;lia) ?_
 exact⟨.int (nub ns).length,H,I.tok _,⟨_,by rw[hn]⟩,q⟩
theorem call_setI:CallR X (.type "set") (fun xs H Q=>∃ (l:Addr) (ns:List Int),xs=[V.ref l]/\SqL X.K H l (ns.map V.int)/\X.A.handled=none/\ns.length+1<scanBound/\∀ S:Addr,H S=none->Q (.ref S) (upd H S (setI ns))):=by
 intro pins s σ H xs us Q I r h
 obtain⟨l,ns,rfl,hq,hh,hl,q⟩:=h
 obtain⟨u,rfl,rx⟩:=vals1 r
 cases rx
 obtain⟨its,r',pl,hz⟩:=I.list hq
 have li:=r'.length
 rw[List.length_map]at li
 refine call_set_list hh pl.isList (intsAre_of r') (by rw[List.size_toArray];omega) fun h' tk hS kp=>?_
 have kp':∀ b u,s.heap.get? b=some u->h'.get? b=some u:=fun b u e=>kp b u (Heap.lt_size e) e
 have en:firstMet (fun i=>ns.getD i 0) its.toArray.size=nub ns:=by
  unfold firstMet nub nubF
  congr 1
  rw[List.size_toArray,<- li]
  apply List.ext_getElem
  ·simp
  ·intro i h1 h2
   simp[List.getD_eq_getElem?_getD,List.getElem?_eq_getElem h2]
 rw[en]at hS
 have eS:(fun k'=>(nub ns).any (· == k'))=fun k=>decide (k∈nub ns):=by
  funext k
  rw[Bool.eq_iff_iff,List.any_eq_true,decide_eq_true_eq]
  exact⟨fun⟨x,hx,e⟩=>by rw[<- beq_iff_eq.mp e];exact hx,fun h=>⟨k,h,by simp⟩⟩
 rw[eS]at hS
 exact⟨.ref s.heap.objs.size,_,I.laid (t':=tk) (a:=s.heap.objs.size) (o:=setI ns) kp' (Nat.le_refl _) hS,rfl,q _ (I.hok.fresh (Nat.le_refl _))⟩
end
open PySem PySem.W PyProof.Rows
noncomputable def sqO:Bool->List V->HO
 |true,xs=>.tup xs
 |false,xs=>.lst xs
theorem sq_or{b:Bool}{K:PySem.W.Frag}{H:Hp}{a:Addr}{xs:List V}(h:H a=some (sqO b xs)):SqL K H a xs\/SqT K H a xs:=by
 cases b
 ·exact .inl (SqL.of h)
 ·exact .inr (SqT.of h)
section
variable{X:Cx}
inductive rIxLhI(x:V)(y:V)(H:Hp)(Q:VK):Prop where
 |mk (p:_) (xs:_) (i:_) (v:_) (h1:x = .ref p) (h2:y = .int i) (h3:H p=some (.lst xs)) (h4:atI xs i=some v) (h5:Q v H)
noncomputable def rIxLh:R2:=fun x y H Q=>rIxLhI x y H Q
inductive rIxThI(x:V)(y:V)(H:Hp)(Q:VK):Prop where
 |mk (p:_) (xs:_) (i:_) (v:_) (h1:x = .ref p) (h2:y = .int i) (h3:H p=some (.tup xs)) (h4:atI xs i=some v) (h5:Q v H)
noncomputable def rIxTh:R2:=fun x y H Q=>rIxThI x y H Q
theorem ix_listH:IxR X rIxLh:=by
 intro value slice pins s σ H x y v u Q I rx ry h hs
 obtain⟨p,xs,i,z,rfl,rfl,hp,he,q⟩:=h
 exact ix_list value slice pins s σ H _ _ v u Q I rx ry ⟨p,xs,i,z,rfl,rfl,SqL.of hp,he,q⟩ hs
theorem ix_tupH:IxR X rIxTh:=by
 intro value slice pins s σ H x y v u Q I rx ry h hs
 obtain⟨p,xs,i,z,rfl,rfl,hp,he,q⟩:=h
 exact ix_tup value slice pins s σ H _ _ v u Q I rx ry ⟨p,xs,i,z,rfl,rfl,SqT.of hp,he,q⟩ hs
theorem call_lenH:CallR X (.builtin "len") (fun xs H Q=>∃ p ys,xs=[.ref p]/\H p=some (.lst ys)/\Q (.int ys.length) H):=by
 intro pins s σ H xs us Q I r h
 obtain⟨p,ys,rfl,hp,q⟩:=h
 exact call_len_seq pins s σ H _ us Q I r ⟨p,ys,rfl,.inl (SqL.of hp),q⟩
theorem call_tupleH:CallR X (.type "tuple") (fun xs H Q=>∃ p ys,xs=[.ref p]/\H p=some (.lst ys)/\∀ l,H l=none->Q (.ref l) (upd H l (.tup ys))):=by
 intro pins s σ H xs us Q I r h
 obtain⟨p,ys,rfl,hp,q⟩:=h
 exact call_tuple_of pins s σ H _ us Q I r ⟨p,ys,rfl,.inl ⟨SqL.of hp,q⟩⟩
theorem call_sumH(hc:X.calm=true):CallR X (.builtin "sum") (fun xs H Q=>∃ (l:Addr) (ns:List Int),xs=[V.ref l]/\H l=some (.lst (ns.map V.int))/\Q (.int ns.sum) H):=by
 intro pins s σ H xs us Q I r h
 obtain⟨p,ys,rfl,hp,q⟩:=h
 exact call_sum hc pins s σ H _ us Q I r ⟨p,ys,rfl,SqL.of hp,q⟩
theorem call_allH(hc:X.calm=true):CallR X (.builtin "all") (fun xs H Q=>∃ (l:Addr) (bs:List Bool),xs=[V.ref l]/\H l=some (.lst (bs.map V.bl))/\Q (.bl (bs.all id)) H):=by
 intro pins s σ H xs us Q I r h
 obtain⟨p,ys,rfl,hp,q⟩:=h
 exact call_all hc pins s σ H _ us Q I r ⟨p,ys,rfl,SqL.of hp,q⟩
theorem call_anyH(hc:X.calm=true):CallR X (.builtin "any") (fun xs H Q=>∃ (l:Addr) (bs:List Bool),xs=[V.ref l]/\H l=some (.lst (bs.map V.bl))/\Q (.bl (bs.any id)) H):=by
 intro pins s σ H xs us Q I r h
 obtain⟨p,ys,rfl,hp,q⟩:=h
 exact call_any hc pins s σ H _ us Q I r ⟨p,ys,rfl,SqL.of hp,q⟩
theorem call_maxLH(hc:X.calm=true):CallR X (.builtin "max") (fun xs H Q=>∃ (l:Addr) (ns:List Int),xs=[V.ref l]/\H l=some (.lst (ns.map V.int))/\ns≠[]/\∀ m:Int,m∈ns->(∀ a∈ns,a<=m)->Q (.int m) H):=by
 intro pins s σ H xs us Q I r h
 obtain⟨p,ys,rfl,hp,n0,q⟩:=h
 exact call_maxL hc pins s σ H _ us Q I r ⟨p,ys,rfl,SqL.of hp,n0,q⟩
inductive rInQI(b n:Bool)(x:V)(y:V)(H:Hp)(Q:VK):Prop where
 |mk (p:_) (xs:_) (h1:y = .ref p) (h2:H p=some (sqO b xs)) (h3:flatV x=true) (h4:xs.all flatV=true) (h5:Q (.bl (if n=true then !inV x xs else inV x xs)) H)
noncomputable def rInQ(b n:Bool):R2:=fun x y H Q=>rInQI b n x y H Q
theorem op_inQ(b:Bool):OpR X (compareOp .In) (rInQ b false):=by
 intro pins s σ H x y v u Q I rx ry h
 obtain⟨p,xs,rfl,hp,fx,fs,q⟩:=h
 exact op_in_seq pins s σ H x _ v u Q I rx ry ⟨p,xs,rfl,sq_or hp,fx,fs,q⟩
theorem op_notInQ(b:Bool):OpR X (compareOp .NotIn) (rInQ b true):=by
 intro pins s σ H x y v u Q I rx ry h
 obtain⟨p,xs,rfl,hp,fx,fs,q⟩:=h
 exact op_notIn_seq pins s σ H x _ v u Q I rx ry ⟨p,xs,rfl,sq_or hp,fx,fs,q⟩
theorem op_notInH:OpR X (compareOp .NotIn) (rInQ false true):=op_notInQ false
noncomputable def tBMh(r:V->List V->Hp->VK->Prop)(to:TE)(t:TA):TE:=fun σ H Q=>to σ H fun x H1=>(∃ p xs,x = .ref p/\H1 p=some (.lst xs))/\t σ H1 fun xs H2=>r x xs H2 Q
theorem pe_bmH{id:String}{name:Str}{r:V->List V->Hp->VK->Prop}{o e:Expr}{es:List Expr}{to:TE}{t:TA}{apos cpos:Pos}(slot:Slot "list" name id)(hty:typeOf (.builtin id)=pure (.type "method_descriptor"))(hm:MtR X id r)(ho:PE X o to)(ha:PA X (e :: es) t)(hbase:attributeBase o name X.env (eval o X.env)=eval o X.env:=by rfl)
  (hfew:((backTo cpos (starEach (e :: es) X.env)).all (fun x=>!x.1) && (backToKw cpos (keywordEach [] X.env)).all (fun x=>x.1.isSome) && decide ((e :: es).length+([]:List Keyword).length+(if([]:List Keyword).isEmpty then 0 else 1)<30))=true:=by rfl) (hline:(apos.endLine == cpos.line)=true:=by rfl)
  (hs:starEach (e :: es) X.env=(false,eval e X.env) :: starEach es X.env:=by rfl) (hplain:(backTo cpos (starEach es X.env)).any (·.1)=false:=by rfl):PE X (.Call (.Attribute o name apos) (e :: es) [] cpos) (tBMh r to t):=by
 intro pins s σ H Q I h
 refine wpAny_Call_method_late hbase hfew hline rfl (thn (ho pins s σ H _ I h) fun v s1 ⟨x,H1,I1,r1,⟨p,xs,ex,hx⟩,q1⟩=>?_)
 subst ex
 obtain⟨h1,h2⟩:=tyV_is (T:="list") I1 r1 (.inl ⟨rfl,xs,SqL.of hx⟩)
 refine⟨"list",id,PySem.F.plainAttrs_list,slot,hty,h1,h2,?_⟩;have hA:=ha cpos pins s1 σ H1 _ I1 q1
 rw[hs]at hA ⊢;refine Calls.callWith_builtin (by show(false ||(backTo cpos (starEach es X.env)).any (·.1))=false;rw[hplain] <;> rfl) (Calls.evalArgs_plain (thn hA fun us s2 ⟨vs,H2,I2,r2,q2⟩=>?_))
 exact hm pins s2 σ H2 _ vs v us Q I2 r1 r2 q2
end
open PySem PySem.W PyProof.Rows
theorem star_ife{c a b:Expr}{pos:Pos}{rest:List Expr}{env:Env}:starEach (.IfExp c a b pos :: rest) env=(false,eval (.IfExp c a b pos) env) :: starEach rest env:=rfl
theorem pa_ife{X:Cx}{es:List Expr}{pos:Pos}{te:TE}{t:TA}{c a b:Expr}(ha:PE X (.IfExp c a b pos) te)(hr:PA X es t):PA X (.IfExp c a b pos :: es) (tCons te t):=pa_cons ha hr (hs:=star_ife)
open PySem PySem.W PyProof.Rows
section
variable{M:Model}{A:Around}{E:Value->Shared->Prop}{s:Shared}
theorem newEnv_cell{scope:Scope}{globals:Addr}{closure:List (Str×Addr)}{qual:Str}{func:Option Addr}{code:Value}{builtins:Addr}{env:Env}{y:Str}{Q:Env->Shared->Prop}
  (h1:∀ b acc,cellsFrom b scope.names acc=(y,b) :: acc) (h2:∀ h:Heap,pushCells h scope.names=h.push { cls:=.type "cell",data:=.cell none })
  (hQ:Q (newEnv scope s.heap.objs.size globals ((y,s.heap.objs.size+1) :: closure) qual func code (some env) builtins) { s with heap:=(s.heap.push { cls:=.type "dict",data:=.dict #[] }).push { cls:=.type "cell",data:=.cell none } }) :
  wpAny M A (newFunctionEnv scope globals closure [] qual func code (some env) builtins) Q E s:=by
 simp only[newFunctionEnv,Option.isSome_some,if_true]
 refine wpAny_bind (wpAny_alloc ?_)
 refine wpAny_bind (wpAny_layCells _ (fun name kind cells=>by cases hkc:kind == NameKind.cell <;> simp[hkc]) _ _ _ _ ?_)
 rw[h1,h2,show({ s with heap:=s.heap.push { cls:=.type "dict",data:=.dict #[] } }:Shared).heap.objs.size=s.heap.objs.size+1 from Heap.size_push ..]
 rw[List.forIn_nil]
 exact wpAny_bind (wpAny_pure (wpAny_pure hQ))
end
noncomputable def cxIc(X:Cx)(y:Str)(N':List Str)(scope:Scope)(C:Addr)(s2:Shared)(H2:Hp)(fp:List Addr):Cx :=
 { X with N:=N',s₀:=s2,H₀:=H2,env:=compEnvC scope ((y,C+1) :: closCl X.env.cells scope.names []) C X.env,outer:=X.stack,ex:=fp,fn:=fun x=>decide (x=y),xe:=fun _ _=>False }
structure CellScope(y:Str)(N':List Str)(cap:List (Option Nat))(N:List Str)(sc0 scope:Scope):Prop where
 kind:scope.kind = .function
 one:∀ b acc,cellsFrom b scope.names acc=(y,b) :: acc
 push:∀ h:Heap,pushCells h scope.names=h.push { cls:=.type "cell",data:=.cell none }
 only:∀ x∈scope.names,x.2 = .cell->x.1=y
 own:scope.names.lookup y=some .cell
 loc:∀ x∈scope.names,x.2 = .local->scope.names.lookup x.1=some .local
 fre:∀ x∈scope.names,x.2 = .free->sc0.names.lookup x.1=some .cell\/sc0.names.lookup x.1=some .free
 len:cap.length=N'.length
 cap:∀ j∈List.range cap.length,match cap[j]? with
  |some (some i)=>match N'[j]? with
   |some x=>N[i]?=some x/\scope.names.lookup x=some .free
   |none=>False
  | _=>True
section
variable{X:Cx}{y:Str}{N':List Str}{cap:List (Option Nat)}{scope:Scope}{C:Addr}{s2 s4:Shared}{H2:Hp}{fp:List Addr}{pins:List (Addr×Obj)}{σ:St}
theorem CellScope.clos(S:CellScope y N' cap X.N X.env.scope scope)(I:Inv X pins σ H2 s2):∀ x∈scope.names,x.2 = .free->∃ c,X.env.cells.lookup x.1=some c :=
 fun x hx hf=>I.ok.has x.1 (S.fre x hx hf)
theorem csC_sound(S:CellScope y N' cap X.N X.env.scope scope)(I:Inv X pins σ H2 s2){x:Str}{c:Addr}(e:((y,C+1) :: closCl X.env.cells scope.names []).lookup x=some c):(x=y/\c=C+1)\/X.env.cells.lookup x=some c:=by
 rw[List.lookup_cons]at e
 by_cases z:(x == y)=true
 ·rw[z]at e
  exact .inl ⟨by simpa using z,by cases e;rfl⟩
 ·rw[Bool.eq_false_iff.mpr z]at e
  exact .inr (closCl_sound _ _ (S.clos I) (fun y c e=>by simp at e) x c e)
theorem csC_old(I:Inv X pins σ H2 s2){x:Str}{c:Addr}(hC:s2.heap.objs.size<=C)(e:X.env.cells.lookup x=some c):c≠C+1:=fun z=>by
 obtain⟨v,q⟩:=I.cell x c e
 have h1:=q.lt
 rw[z]at h1
 exact absurd h1 (Nat.not_lt.mpr (Nat.le_succ_of_le hC))
theorem cxIc_ok(S:CellScope y N' cap X.N X.env.scope scope)(I:Inv X pins σ H2 s2)(hC:s2.heap.objs.size<=C)(hfp:∀ b∈fp,FpOk X pins H2 b)(hfo:∀ b∈fp,∃ o,s2.heap.get? b=some o):(cxIc X y N' scope C s2 H2 fp).Ok where
 mod:=I.ok.mod
 kind:=S.kind
 glob:=I.ok.glob
 blt:=I.ok.blt
 above:=hC
 inj:=fun x z c e1 e2=>by
  rcases csC_sound S I e1 with⟨a1,b1⟩ | a1 <;> rcases csC_sound S I e2 with⟨a2,b2⟩ | a2
  ·rw[a1,a2]
  ·exact absurd b1 (csC_old I hC a2)
  ·exact absurd b2 (csC_old I hC a1)
  ·exact I.ok.inj x z c a1 a2
 has:=fun x h=>by
  have key:∀ k,(x,k)∈scope.names->(k = .cell\/k = .free)->∃ c,((y,C+1) :: closCl X.env.cells scope.names []).lookup x=some c:=fun k hk hc=>by
   rw[List.lookup_cons]
   by_cases z:(x == y)=true
   ·rw[z];exact⟨_,rfl⟩
   ·rw[Bool.eq_false_iff.mpr z]
    rcases hc with e | e
    ·subst e;exact absurd (by simpa using S.only _ hk rfl) z
    ·subst e;exact closCl_has _ _ x hk
  rcases h with h | h
  ·obtain⟨k,hk,e |⟨e,_⟩⟩:=relabel_mem (scope:=scope) (l:=scope.names) h
   ·exact key k hk (.inl e)
   ·exact key k hk (.inr e)
  ·obtain⟨k,hk,e |⟨_,e⟩⟩:=relabel_mem (scope:=scope) (l:=scope.names) h
   ·exact key k hk (.inr e)
   ·cases e
 cab:=fun x c h e=>by
  have h:x=y:=of_decide_eq_true h
  rcases csC_sound S I e with⟨_,b1⟩ | a1
  ·rw[b1];exact Nat.le_succ_of_le hC
  ·subst h
   have e:((x,C+1) :: closCl X.env.cells scope.names []).lookup x=some c:=e
   rw[List.lookup_cons,beq_self_eq_true]at e
   cases e
   exact Nat.le_succ_of_le hC
 hd:=I.ok.hd
 frames:=I.ok.frames
 stk:=.inl rfl
 exf:=fun b hb=>⟨fun z=>by
   obtain⟨o,ho⟩:=hfo b hb
   have h1:=Nat.lt_of_lt_of_le (Heap.lt_size ho) hC
   have z:b=C:=z
   rw[z]at h1
   exact Nat.lt_irrefl _ h1,fun x c e=>by
   rcases csC_sound S I e with⟨_,b1⟩ | a1
   ·obtain⟨o,ho⟩:=hfo b hb
    have h1:=Nat.lt_of_lt_of_le (Heap.lt_size ho) hC
    intro z
    rw[<- z,b1]at h1
    exact absurd h1 (Nat.not_lt.mpr (Nat.le_succ _))
   ·exact(hfp b hb).2.2.2.2.1 x c a1⟩
 bs:=I.bs
 bsz:=Nat.le_trans I.ok.bsz I.sz
 noex:=fun b o e hb=>by
  rcases(hfp b hb).2.2.2.1 with z | z
  ·exact I.ok.noex b o e z
  ·exact absurd (Nat.lt_of_lt_of_le (Heap.lt_size e) (Nat.le_trans I.ok.bsz z)) (Nat.lt_irrefl _)
 exfs:=fun b hb z=>by
  rcases List.mem_cons.mp (I.stkSub b z)with e | e
  ·exact(hfp b hb).2.1 e
  ·exact(hfp b hb).2.2.1 e
 funs:=I.stack
 frf:=I.stkFree
theorem cxIc_inv(S:CellScope y N' cap X.N X.env.scope scope)(I:Inv X pins σ H2 s2)(hC:s2.heap.objs.size<=C)(hfp:∀ b∈fp,FpOk X pins H2 b)(hfo:∀ b∈fp,∃ o,s2.heap.get? b=some o)
  (ho:s4.os=s2.os) (hg:s4.gens=s2.gens) (k:∀ b o,s2.heap.get? b=some o->s4.heap.get? b=some o) {m:Str->Option Value} (hn:s4.heap.Ns C m) {D:Addr}{oD:Obj}
  (hD:s4.heap.get? D=some oD) (hDs:s2.heap.objs.size<=D) (hDC:D≠C) (hDc:∀ v,oD.data≠.cell v) (hcl:s4.heap.IsCell (C+1) none) :
  Inv (cxIc X y N' scope C s2 H2 fp) (pins++[(D,oD)]) (capt cap σ) H2 s4 where
 ok:=cxIc_ok S I hC hfp hfo
 os:=ho
 bare:=by rw[hg];exact I.bare
 base:=Un.kept k
 loc:=by
  refine⟨m,hn,fun j x v e1 e2 _=>?_⟩
  have hj:j<cap.length:=by rw[S.len];exact(List.getElem?_eq_some_iff.mp e1).1
  have e1:N'[j]?=some x:=e1
  have hc:=S.cap j (List.mem_range.mpr hj)
  unfold capt at e2
  rw[List.getElem?_map]at e2
  cases hq:cap[j]? with
  |none=>rw[hq]at e2;cases e2
  |some o =>
   rw[hq]at e2 hc
   cases o with
   |none=>cases e2
   |some i =>
    simp only[e1]at hc
    obtain⟨hN,hfr⟩:=hc
    have e3:σ[i]?=some (some v):=by
     have e2:(σ[i]?).join=some v:=Option.some.inj e2
     cases hs:σ[i]? with
     |none=>rw[hs]at e2;cases e2
     |some w=>rw[hs]at e2;have e2:w=some v:=e2;rw[e2]
    have hm:=lookup_mem hfr
    have hk:=S.fre _ hm rfl
    obtain⟨m0,hn0,hl0⟩:=I.loc
    obtain⟨u,r,l⟩:=hl0 i x v hN e3 (.inr hk)
    refine⟨u,r,?_⟩
    rcases l with⟨l,_⟩ |⟨_,c,e,z⟩
    ·rcases hk with hk | hk
     ·rw[show X.env.kindOf x=some .cell from hk]at l;cases l
     ·rw[show X.env.kindOf x=some .free from hk]at l;cases l
    ·obtain⟨c',hc'⟩:=closCl_has (cells:=X.env.cells) scope.names [] x hm
     have hs:=closCl_sound scope.names [] (S.clos I) (fun y c e=>by simp at e) x c' hc'
     rw[e]at hs
     cases hs
     have ny:(x == y)=false:=Bool.eq_false_iff.mpr fun z=>by
      have z:x=y:=by simpa using z
      rw[z,S.own]at hfr
      cases hfr
     refine .inr ⟨relabel_free hfr,c,(by show((y,C+1) :: closCl X.env.cells scope.names []).lookup x=some c;rw[List.lookup_cons,ny];exact hc'),?_⟩
     obtain⟨oc,ho',hd'⟩:=z
     exact⟨oc,k _ _ ho',hd'⟩
 cell:=fun x c e=>by
  rcases csC_sound S I e with⟨_,b1⟩ | a1
  ·rw[b1];exact⟨none,hcl⟩
  ·obtain⟨v,oc,ho',hd'⟩:=I.cell x c a1
   exact⟨v,oc,k _ _ ho',hd'⟩
 free:=I.hok.fresh hC
 freeC:=fun x c e=>by
  rcases csC_sound S I e with⟨_,b1⟩ | a1
  ·rw[b1];exact I.hok.fresh (Nat.le_succ_of_le hC)
  ·exact I.freeC x c a1
 pin:=fun p hp=>by
  have hp:p∈X.pn++(pins++[(D,oD)]):=hp
  have cne:∀ b o,s2.heap.get? b=some o->b≠C:=fun b o e z=>by
   have h1:=Nat.lt_of_lt_of_le (Heap.lt_size e) hC
   rw[z]at h1
   exact Nat.lt_irrefl _ h1
  rw[<- List.append_assoc]at hp
  rcases List.mem_append.mp hp with hp | hp
  ·obtain⟨e,n,ne,nf,d⟩:=I.pin p hp
   exact⟨k _ _ e,n,cne _ _ e,fun z=>by
    rcases List.mem_cons.mp (I.stkSub p.1 z)with e | e
    ·exact ne e
    ·exact nf e,d⟩
  ·have e:p=(D,oD):=by simpa using hp
   subst e
   refine⟨hD,I.hok.fresh hDs,hDC,fun z=>?_,hDc⟩
   rcases List.mem_cons.mp (I.stkSub D z)with e | e
   ·have h1:=Nat.lt_of_lt_of_le I.lt hDs
    rw[e]at h1
    exact Nat.lt_irrefl _ h1
   ·exact I.nofs hDs e
 hok:=I.hok.kept k
 len:=by unfold capt;rw[List.length_map];exact S.len
end
section
variable{X:Cx}{y:Str}{elt tg iter:Expr}{ifs:List Expr}{scope:Scope}{pos:Pos}{N':List Str}{cap:List (Option Nat)}{wi:TI}{g:TG}{tc:TT}{te:TE}
theorem comp_runC(hc:X.calm=true)(S:CellScope y N' cap X.N X.env.scope scope)(hi:PI X tg iter wi)(hg:∀ C s H fp,PG (cxIc X y N' scope C s H fp) tg g)
  (ht:∀ C s H fp,PF (cxIc X y N' scope C s H fp) ifs tc) (he:∀ C s H fp,PE (cxIc X y N' scope C s H fp) elt te)
  {pins:List (Addr×Obj)}{s:Shared}{σ:St}{H:Hp}{Q:VK} (I:Inv X pins σ H s) (h:tComp cap wi g tc te σ H Q) :
  wpAny (model X.prog X.w) X.A (eval iter X.env) (fun x s₁=>wpAny (model X.prog X.w) X.A (pyIter x) (fun it s₂=>wpAny (model X.prog X.w) X.A (newList []) (fun acc s₃ =>
   wpAny (model X.prog X.w) X.A (newFunctionEnv scope X.env.globals (closCl X.env.cells scope.names []) [] X.env.qual none .none (some X.env)) (fun cenv s₄ =>
    codeAny (model X.prog X.w) X.A (.compStart (.ListComp elt [⟨tg,iter,ifs,0⟩] scope pos) 0 it acc { cenv with scope:=relabel scope X.env }) (CompEnd X pins σ Q acc cenv.locals) s₄) X.xe s₃) X.xe s₂) X.xe s₁) X.xe s:=by
 refine thn (hi pins s σ H _ I h) fun v s1 h1=>thn h1 fun itv s2 h2=>?_
 obtain⟨it,fp,tn,J,H2,e,I2,T,st2,f2,n,P,hn,p0,turn⟩:=h2
 subst e
 refine wpAny_newObj_type (newEnv_cell S.one S.push ?_)
 dsimp only
 generalize hHp:s2.heap.push { cls:=.type "list",dict:=none,data:=.seq ([]:List Value).toArray } = Hq
 generalize hh1:(Hq.push { cls:=.type "dict",data:=.dict #[] }).push { cls:=.type "cell",data:=.cell none } = h₁
 have hns₁:h₁.Ns Hq.objs.size fun _=>none:=by rw[<- hh1];exact(Heap.Ns.new Hq (.type "dict")).keeps fun b o e=>Heap.get?_push_of_some _ e
 have hcl₁:h₁.IsCell (Hq.objs.size+1) none:=by
  have e:(Hq.push { cls:=.type "dict",data:=.dict #[] }).objs.size=Hq.objs.size+1:=Heap.size_push ..
  rw[<- hh1,<- e]
  exact⟨_,Heap.get?_push_size _ rfl,rfl⟩
 have up₁:∀ b o,Hq.get? b=some o->h₁.get? b=some o:=fun b o e=>by rw[<- hh1];exact Heap.get?_push_of_some _ (Heap.get?_push_of_some _ e)
 have hC:Hq.objs.size=s2.heap.objs.size+1:=by rw[<- hHp,Heap.size_push]
 have hDC:s2.heap.objs.size≠Hq.objs.size:=by rw[hC];exact Nat.ne_of_lt (Nat.lt_succ_self _)
 have hCle:s2.heap.objs.size<=Hq.objs.size:=by rw[hC];exact Nat.le_succ _
 have old:∀ b o,s2.heap.get? b=some o->h₁.get? b=some o:=fun b o e=>up₁ b o (hHp▸Heap.get?_push_of_some _ e)
 have hacc:h₁.PlainList s2.heap.objs.size #[]:=⟨_,up₁ _ _ (hHp▸Heap.get?_push_size _ rfl)⟩
 have hfo:∀ b∈fp,∃ o,s2.heap.get? b=some o:=fun b hb=>let ⟨o,e,_⟩:=T.obj _ _ st2 b hb;⟨o,e⟩
 have st4:tn 0 h₁:=T.keep _ _ _ st2 fun b _ o e=>old b o e
 let D:Addr:=s2.heap.objs.size
 let C:Addr:=Hq.objs.size
 let Y:Cx:=cxIc X y N' scope C s2 H2 fp
 have hDfp:D∉fp:=fun hb=>by
  obtain⟨o,e⟩:=hfo D hb
  exact Nat.lt_irrefl _ (Heap.lt_size e)
 -- the iterator's objects,seen from within
 have stat:∀ {H':Hp}{oD:Obj},(∀ b∈fp,H' b=none)->∀ b∈fp,FpOk Y (pins++[(D,oD)]) H' b:=fun {H' oD} hn b hb=>by
  obtain⟨f0,f1,fx,f3,f4,f5⟩:=f2 b hb
  obtain⟨o,e⟩:=hfo b hb
  refine⟨hn b hb,fun z=>?_,fun z=>?_,.inl hb,fun x c e=>by
   rcases csC_sound S I2 e with⟨_,b1⟩ | a1
   ·obtain⟨o,ho⟩:=hfo b hb
    have h1:=Nat.lt_of_lt_of_le (Heap.lt_size ho) hCle
    intro z
    rw[<- z,b1]at h1
    exact absurd h1 (Nat.not_lt.mpr (Nat.le_succ _))
   ·exact f4 x c a1,fun p hp=>?_⟩
  ·have h1:=Nat.lt_of_lt_of_le (Heap.lt_size e) hCle
   have z:b=Hq.objs.size:=z
   rw[z]at h1
   exact Nat.lt_irrefl _ h1
  ·rcases List.mem_cons.mp (I2.stkSub b z)with e | e
   ·exact f1 e
   ·exact fx e
  ·have hp:p∈X.pn++(pins++[(D,oD)]):=hp
   rw[<- List.append_assoc]at hp
   rcases List.mem_append.mp hp with hp | hp
   ·exact f5 p hp
   ·have q:p=(D,oD):=by simpa using hp
    subst q
    exact fun z=>hDfp (by rw[show D=b from z];exact hb)
 have loop:∀ s₃:Shared,s₃ = { s2 with heap:=h₁,toks:=s2.toks } ->
   codeAny (model X.prog X.w) X.A (.compLoop (.ListComp elt [⟨tg,iter,ifs,0⟩] scope pos) 0 (.ref it) (.ref s2.heap.objs.size) (compEnvC scope ((y,Hq.objs.size+1) :: closCl X.env.cells scope.names []) Hq.objs.size X.env))
    (CompEnd X pins σ Q (.ref s2.heap.objs.size) Hq.objs.size) s₃:=by
  rintro s₃ rfl
  have cellD:∀ x c,Y.env.cells.lookup x=some c->c≠D:=fun x c e z=>by
   have z:c=s2.heap.objs.size:=z
   rcases csC_sound S I2 e with⟨_,b1⟩ | a1
   ·have b1:c=Hq.objs.size+1:=b1
    rw[z,hC]at b1
    exact absurd b1 (Nat.ne_of_lt (Nat.lt_succ_of_lt (Nat.lt_succ_self _)))
   ·obtain⟨v,q⟩:=I2.cell x c a1
    have h1:=q.lt
    rw[z]at h1
    exact Nat.lt_irrefl _ h1
  have pinD:∀ p∈X.pn++pins,p.1≠D:=fun p hp z=>by
   have h1:=Heap.lt_size (I2.pin p hp).1
   rw[show p.1=s2.heap.objs.size from z]at h1
   exact Nat.lt_irrefl _ h1
  have inD:∀ {pl:List (Addr×Obj)}{oD:Obj},(D,oD)∈Y.pn++((pins++[(D,oD)])++pl):=fun {pl oD}=>List.mem_append_right _ (List.mem_append_left _ (List.mem_append_right _ (by simp)))
  have inF:∀ {pl:List (Addr×Obj)}{oD:Obj}{p:Addr×Obj},p∈pl->p∈Y.pn++((pins++[(D,oD)])++pl):=fun {pl oD p} hp=>List.mem_append_right _ (List.mem_append_right _ hp)
  refine codeAny_compLoop_any (fun m s'=>∃ i ys H' its ep,m=n-i/\i<=n/\ys.length<=i/\Vals ys its/\Inv Y (pins++[(D,{ cls:=.type "list",data:=.seq its.toArray ep })]) (capt cap σ) H' s'/\tn i s'.heap/\(∀ b∈fp,H' b=none)/\P i ys H') ?_ n ?_
  ·rintro m s3 ⟨i,ys,H3,its,ep,rfl,hin,hyl,rv,I3,st3,fr3,p3⟩
   rcases turn i ys H3 hyl hin p3 with⟨stop,q⟩ |⟨hlt,go,step⟩
   ·refine thn (T.done Y rfl rfl rfl hc i _ s3 _ H3 (fun _ _=>False) I3 (stat fr3) st3 stop) fun r s4 ⟨hr,I4⟩=>?_
    subst hr
    obtain⟨eD,nD,_⟩:=I4.pin (D,{ cls:=.type "list",data:=.seq its.toArray ep }) (List.mem_append_right _ (List.mem_append_right _ (by simp)))
    have nD:H3 D=none:=nD
    have okn:ObjOk X.prog X.w (upd H3 D (.lst ys)) s4.heap D (.lst ys):=⟨Nat.le_trans hyl (Nat.le_trans hin hn),its,ep,rv,eD⟩
    have hok:HOk X.prog X.w (upd H3 D (.lst ys)) s4.heap:=fun b u e=>by
     by_cases hb:b=D
     ·subst hb;rw[upd_same]at e;cases e;exact okn
     ·rw[upd_ne hb]at e
      exact(I4.hok b u e).stay (fun c v _ q=>q) (fun c q=>by rw[upd_ne (ne_of_none q nD)];exact q) fun c xs q=>by rw[upd_ne (ne_of_none q nD)];exact q
    have B:=I4.base
    have u:Un (frs X.stack) fp H2 (upd H3 D (.lst ys)) s2.heap s4.heap :=
     ⟨B.keep,B.slot,fun b o e n hx=>by rw[upd_ne (Nat.ne_of_lt (Heap.lt_size e))];exact B.free b o e n hx,B.there,fun b xs e=>by rw[upd_ne (ne_of_none (B.tups b xs e) nD)];exact B.tups b xs e,
      fun b o xs e=>by rw[upd_ne (ne_of_none (B.frzs b o xs e) nD)];exact B.frzs b o xs e,fun b ps e=>by
       obtain⟨more,z⟩:=B.tbls b ps e
       exact⟨more,by rw[upd_ne (ne_of_none z nD)];exact z⟩⟩
    have IX:Inv X pins σ (upd H3 D (.lst ys)) s4:=I2.call' (ch:=fp) I4.os u hok I4.bare fun b hb=>by
     obtain⟨f0,f1,fx,f3,f4,f5⟩:=f2 b hb
     exact⟨f3,f1,f4,f5⟩
    have nC:(upd H3 D (.lst ys)) Hq.objs.size=none:=by rw[upd_ne (Ne.symm hDC)];exact I4.free
    obtain⟨m',hm',_⟩:=I4.loc
    exact⟨.ref D,_,IX,rfl,q D nD,⟨m',hm'⟩,I2.fpOk hCle nC⟩
   ·refine thn (T.item Y rfl rfl rfl hc i _ s3 _ H3 (fun _ _=>False) I3 (stat fr3) st3 go) fun r s4 ⟨u,hr,h4⟩=>?_
    subst hr
    refine thn h4 fun _ s5 ⟨x,H5,I5,r5,y5,st5,fr5⟩=>?_
    have I5':=I5.pinned (stat fr5) (T.obj _ _ st5)
    refine thn (hg C s2 H2 fp _ s5 _ H5 x u _ I5' r5 (step x H5 y5)) fun _ s6 ⟨σ6,H6,I6,kp,q6⟩=>?_
    refine thn (ht C s2 H2 fp _ s6 σ6 H6 _ I6 q6) fun b s7 ⟨H7,I7,q7⟩=>?_
    cases b with
    |false =>
     rw[if_neg Bool.false_ne_true]at q7 ⊢
     refine⟨n-(i+1),Nat.sub_succ_lt_self n i hlt,i+1,ys,H7,its,ep,rfl,hlt,Nat.le_succ_of_le hyl,rv,I7.unpinned.weak kp.length kp.get,?_,fun b hb=>?_,q7⟩
     ·exact T.keep _ _ _ st5 fun b hb o e=>(I7.pin (b,o) (inF (mem_pinsAt hb e))).1
     ·obtain⟨o,e,d⟩:=T.obj _ _ st5 b hb
      exact(I7.pin (b,o) (inF (mem_pinsAt hb e))).2.1
    |true =>
     rw[if_pos rfl]at q7 ⊢
     refine thn (he C s2 H2 fp _ s7 σ6 H7 _ I7 q7) fun yv s8 ⟨y,H8,I8,r8,q8⟩=>?_
     obtain⟨eD,nD,_⟩:=I8.pin (D,{ cls:=.type "list",data:=.seq its.toArray ep }) inD
     have hsz:its.toArray.size<=sizeLine:=by
      rw[List.size_toArray,<- rv.length]
      exact Nat.le_trans hyl (Nat.le_trans hin hn)
     refine wpAny_list_append_plain (items:=its.toArray) ⟨ep,eD⟩ (fun h9 pl9 sb9=>?_) hsz
     obtain⟨ep',e9⟩:=pl9
     have e9:h9.get? D=some { cls:=.type "list",data:=.seq (its++[yv]).toArray ep' }:=by rw[e9];simp
     have Ia:Inv Y pins σ6 H8 s8:=I8.pins_of fun p hp=>I8.pin p (List.mem_append_right _ (List.mem_append_left _ (List.mem_append_left _ hp)))
     have Ib:Inv Y pins σ6 H8 { s8 with heap:=h9 }:=Ia.turned (it:=D) (t':=s8.toks) (fun b o hb e=>(sb9.2 b hb).trans e) nD hDC (.inr (Nat.le_refl _)) cellD pinD
     have Ic:Inv Y (pins++[(D,{ cls:=.type "list",data:=.seq (its++[yv]).toArray ep' })]) σ6 H8 { s8 with heap:=h9 }:=Ib.pins_of fun p hp=>by
      rcases List.mem_append.mp hp with hp | hp
      ·exact Ib.pin p (List.mem_append_right _ hp)
      ·have q:p=(D,{ cls:=.type "list",data:=.seq (its++[yv]).toArray ep' }):=by simpa using hp
       subst q
       obtain⟨_,_,z1,z2,_⟩:=I8.pin (D,{ cls:=.type "list",data:=.seq its.toArray ep }) inD
       exact⟨e9,nD,z1,z2,fun v z=>by cases z⟩
     refine⟨n-(i+1),Nat.sub_succ_lt_self n i hlt,i+1,ys++[y],H8,its++[yv],ep',rfl,hlt,by simp;omega,Vals.append rv (.cons r8 .nil),Ic.weak kp.length kp.get,?_,fun b hb=>?_,q8⟩
     ·exact T.keep _ _ _ st5 fun b hb o e=>sb9.extBut b o (fun z=>hDfp (by rw[show D=b from Eq.symm z];exact hb)) (I8.pin (b,o) (inF (mem_pinsAt hb e))).1
     ·obtain⟨o,e,d⟩:=T.obj _ _ st5 b hb
      exact(I8.pin (b,o) (inF (mem_pinsAt hb e))).2.1
  ·obtain⟨ep,e⟩:=hacc
   refine⟨0,[],H2,[],ep,rfl,Nat.zero_le _,Nat.le_refl _,.nil,?_,st4,fun b hb=>(f2 b hb).1,p0⟩
   exact cxIc_inv (s4:={ s2 with heap:=h₁,toks:=s2.toks }) S I2 hCle f2 hfo rfl rfl old hns₁ e (Nat.le_refl _) hDC (fun v z=>by cases z) hcl₁
 exact codeAny_compStart_list (loop _ rfl) (T.self X.A 0 _ _ _ st4 (loop _ rfl))
theorem pe_compC(hc:X.calm=true)(S:CellScope y N' cap X.N X.env.scope scope)(hi:PI X tg iter wi)(hg:∀ C s H fp,PG (cxIc X y N' scope C s H fp) tg g)
  (ht:∀ C s H fp,PF (cxIc X y N' scope C s H fp) ifs tc) (he:∀ C s H fp,PE (cxIc X y N' scope C s H fp) elt te)
  (hs:∀ x,foldedSetIterable iter X.env x=pure x:=by intro _;rfl):PE X (.ListComp elt [⟨tg,iter,ifs,0⟩] scope pos) (tComp cap wi g tc te):=by
 intro pins s σ H Q I h
 rw[eval_ListComp]
 refine wpAny_comprehension_free (use:=none) rfl hs (closureFor_cells (S.clos I)) S.kind S.loc (thn (comp_runC (pos:=pos) hc S hi hg ht he I h) fun x s1 h1=>thn h1 fun it s2 h2=>thn h2 fun acc s3 h3=>thn h3 fun cenv s4 h4=>?_)
 refine codeAny_mono h4 fun r s' hr=>?_
 cases r with
 |error x=>exact hr.elim
 |ok f =>
  obtain⟨v,H',I',rv,q,⟨m,hn⟩,f0,f1,f2,f3,f4,f5⟩:=hr
  refine⟨m,hn,fun h' sb=>⟨v,H',I'.turned (it:=cenv.locals) (t':=s'.toks) (fun b o hb e=>(sb.2 b hb).trans e) f0 f1 f3 f4 f5,rv,q⟩⟩
end
open PySem PySem.W PyProof.Rows
theorem Paired.atV{F:V->Dt->Prop}{xs:List V}{ds:List Dt}(h:Paired F xs ds){j:Nat}(h1:j<xs.length)(h2:j<ds.length):F xs[j] ds[j]:=Paired.at h j h1 h2
theorem eq_same{X:Cx}{pins:List (Addr×Obj)}{σ:St}{H:Hp}{s:Shared}(I:Inv X pins σ H s):∀ {n:Nat}{A:Around}{x y:V}{d:Dt}{u v:Value},Dat H n x d->Dat H n y d->RelV x u->RelV y v->A.units+n<cLine->SeqAt.EqAt A s u v true:=by
 have flat:∀ {A:Around}{x y:V}{d:Dt}{u v:Value},Dat H 0 x d->Dat H 0 y d->RelV x u->RelV y v->SeqAt.EqAt A s u v true:=by
  intro A x y d u v hx hy ru rv
  cases d with
  |non=>have ex:x = .non:=hx;have ey:y = .non:=hy;subst ex ey;cases ru;cases rv;exact SeqAt.EqAt.same _
  |bl b=>have ex:x = .bl b:=hx;have ey:y = .bl b:=hy;subst ex ey;cases ru;cases rv;exact SeqAt.EqAt.same _
  |int i =>
   have ex:x = .int i:=hx
   have ey:y = .int i:=hy
   subst ex ey
   obtain⟨t,rfl⟩:=ru
   obtain⟨t',rfl⟩:=rv
   have:=SeqAt.EqAt.int_int (A:=A) (s:=s) i t i t'
   rwa [beq_self_eq_true]at this
  |str z =>
   have ex:x = .str z:=hx
   have ey:y = .str z:=hy
   subst ex ey
   obtain⟨t,rfl⟩:=ru
   obtain⟨t',rfl⟩:=rv
   have:=SeqAt.EqAt.str_str (A:=A) (s:=s) z t z t'
   rwa [beq_self_eq_true]at this
  |lst ds=>exact(show False from hx).elim
  |tup ds=>exact(show False from hx).elim
 intro n
 induction n with
 |zero=>intro A x y d u v hx hy ru rv _;exact flat hx hy ru rv
 |succ n ih =>
  intro A x y d u v hx hy ru rv hu
  cases d with
  |non=>exact flat (d:=.non) hx hy ru rv
  |bl b=>exact flat (d:=.bl b) hx hy ru rv
  |int i=>exact flat (d:=.int i) hx hy ru rv
  |str z=>exact flat (d:=.str z) hx hy ru rv
  |lst ds =>
   obtain⟨a,xs,rfl,xl,ha,px⟩:=hx
   obtain⟨b,ys,rfl,yl,hb,py⟩:=hy
   cases ru
   cases rv
   by_cases e:a=b
   ·subst e;exact SeqAt.EqAt.same _
   ·obtain⟨its,r,pl,hz⟩:=I.list (SqL.of ha)
    obtain⟨its',r',pl',hz'⟩:=I.list (SqL.of hb)
    have l1:=r.length
    have l2:=r'.length
    have l3:xs.length=ds.length:=Paired.length px
    have l4:ys.length=ds.length:=Paired.length py
    have key:=SeqAt.RcAt.lists (A:=A) (e:=fun _=>true) pl.isList pl'.isList (by simp only[List.size_toArray];lia) (by lia) (fun j h1 h2=>by
     simp only[List.size_toArray]at h1 h2
     have jx:j<xs.length:=by lia
     have jy:j<ys.length:=by lia
     obtain⟨u,e1,q1⟩:=r.get (i:=j) (x:=xs[j]) (List.getElem?_eq_getElem jx)
     obtain⟨u',e2,q2⟩:=r'.get (i:=j) (x:=ys[j]) (List.getElem?_eq_getElem jy)
     rw[List.getElem?_eq_getElem h1]at e1
     rw[List.getElem?_eq_getElem h2]at e2
     have e1:=Option.some.inj e1
     have e2:=Option.some.inj e2
     simp only[List.getElem_toArray]
     rw[e1,e2]
     exact ih (A:=A.in1) (d:=ds[j]'(by lia)) (Paired.atV px jx (by lia)) (Paired.atV py jy (by lia)) q1 q2 (by show A.units+1+n<cLine;lia))
    have t:(List.range its.toArray.size).all (fun _=>true)=true:=by simp
    rw[t]at key
    exact SeqAt.EqAt.of_refs e key
  |tup ds =>
   obtain⟨a,xs,rfl,xl,ha,px⟩:=hx
   obtain⟨b,ys,rfl,yl,hb,py⟩:=hy
   cases ru
   cases rv
   by_cases e:a=b
   ·subst e;exact SeqAt.EqAt.same _
   ·obtain⟨its,r,pl,hz⟩:=I.tuple (SqT.of ha)
    obtain⟨its',r',pl',hz'⟩:=I.tuple (SqT.of hb)
    have l1:=r.length
    have l2:=r'.length
    have l3:xs.length=ds.length:=Paired.length px
    have l4:ys.length=ds.length:=Paired.length py
    have key:=SeqAt.RcAt.tuples (A:=A) (e:=fun _=>true) pl pl' (by lia) (fun j h1 h2=>by
     simp only[List.size_toArray]at h1 h2
     have jx:j<xs.length:=by lia
     have jy:j<ys.length:=by lia
     obtain⟨u,e1,q1⟩:=r.get (i:=j) (x:=xs[j]) (List.getElem?_eq_getElem jx)
     obtain⟨u',e2,q2⟩:=r'.get (i:=j) (x:=ys[j]) (List.getElem?_eq_getElem jy)
     rw[List.getElem?_eq_getElem h1]at e1
     rw[List.getElem?_eq_getElem h2]at e2
     have e1:=Option.some.inj e1
     have e2:=Option.some.inj e2
     simp only[List.getElem_toArray]
     rw[e1,e2]
     exact ih (A:=A.in1) (d:=ds[j]'(by lia)) (Paired.atV px jx (by lia)) (Paired.atV py jy (by lia)) q1 q2 (by show A.units+1+n<cLine;lia))
    have t:((List.range (min its.toArray.size its'.toArray.size)).all (fun _=>true) && its.toArray.size == its'.toArray.size)=true:=by
     simp only[List.size_toArray]
     rw[show its.length=its'.length by lia]
     simp
    rw[t]at key
    exact SeqAt.EqAt.of_refs e key
noncomputable def seqD:Dt->Bool
 | .lst _=>true
 | .tup _=>true
 | _=>false
inductive rSameI(b:Bool)(x:V)(y:V)(H:Hp)(Q:VK):Prop where
 |mk (n:_) (d:_) (h1:Dat H (n+1) x d) (h2:Dat H (n+1) y d) (h3:seqD d=true) (h4:n<=50) (h5:Q (.bl b) H)
noncomputable def rSame(b:Bool):R2:=fun x y H Q=>rSameI b x y H Q
section
variable{X:Cx}
theorem items_same{pins:List (Addr×Obj)}{σ:St}{H:Hp}{s:Shared}(I:Inv X pins σ H s){n:Nat}{A:Around}{xs ys:List V}{ds:List Dt}{us vs:List Value}(px:Paired (Dat H n) xs ds)(py:Paired (Dat H n) ys ds)(r:Vals xs us)(r':Vals ys vs)(hu:A.units+n<cLine) :
  ∀ j (h1:j<us.toArray.size) (h2:j<vs.toArray.size),SeqAt.EqAt A s us.toArray[j] vs.toArray[j] true:=fun j h1 h2=>by
 have l1:=r.length
 have l2:=r'.length
 have l3:xs.length=ds.length:=Paired.length px
 have l4:ys.length=ds.length:=Paired.length py
 simp only[List.size_toArray]at h1 h2
 have jx:j<xs.length:=by lia
 have jy:j<ys.length:=by lia
 obtain⟨u,e1,q1⟩:=r.get (i:=j) (x:=xs[j]) (List.getElem?_eq_getElem jx)
 obtain⟨u',e2,q2⟩:=r'.get (i:=j) (x:=ys[j]) (List.getElem?_eq_getElem jy)
 rw[List.getElem?_eq_getElem h1]at e1
 rw[List.getElem?_eq_getElem h2]at e2
 have e1:=Option.some.inj e1
 have e2:=Option.some.inj e2
 simp only[List.getElem_toArray]
 rw[e1,e2]
 exact eq_same I (d:=ds[j]'(by lia)) (Paired.atV px jx (by lia)) (Paired.atV py jy (by lia)) q1 q2 hu
theorem op_eqS(hu:X.A.units+64<cLine):OpR X (compareOp .Eq) (rSame true):=by
 intro pins s σ H x y v u Q I rx ry h
 obtain⟨n,d,hx,hy,sd,hn,q⟩:=h
 have fin:EP X pins σ Q (.bool true) s:=⟨.bl true,H,I,rfl,q⟩
 cases d with
 |lst ds =>
  obtain⟨a,xs,rfl,xl,ha,px⟩:=hx
  obtain⟨b,ys,rfl,yl,hb,py⟩:=hy
  cases rx
  cases ry
  obtain⟨its,r,pl,hz⟩:=I.list (SqL.of ha)
  obtain⟨its',r',pl',hz'⟩:=I.list (SqL.of hb)
  have l1:=r.length
  have l2:=r'.length
  have l3:xs.length=ds.length:=Paired.length px
  have l4:ys.length=ds.length:=Paired.length py
  refine SeqAt.RcAt.lists (e:=fun _=>true) pl.isList pl'.isList (by simp only[List.size_toArray];lia) (by lia) (items_same I px py r r' (by show X.A.units+1+n<cLine;lia)) _ _ _ _ ?_
  rw[show(List.range its.toArray.size).all (fun _=>true)=true by simp]
  exact fin
 |tup ds =>
  obtain⟨a,xs,rfl,xl,ha,px⟩:=hx
  obtain⟨b,ys,rfl,yl,hb,py⟩:=hy
  cases rx
  cases ry
  obtain⟨its,r,pl,hz⟩:=I.tuple (SqT.of ha)
  obtain⟨its',r',pl',hz'⟩:=I.tuple (SqT.of hb)
  have l1:=r.length
  have l2:=r'.length
  have l3:xs.length=ds.length:=Paired.length px
  have l4:ys.length=ds.length:=Paired.length py
  refine SeqAt.RcAt.tuples (e:=fun _=>true) pl pl' (by lia) (items_same I px py r r' (by show X.A.units+1+n<cLine;lia)) _ _ _ _ ?_
  rw[show((List.range (min its.toArray.size its'.toArray.size)).all (fun _=>true) && its.toArray.size == its'.toArray.size)=true by simp only[List.size_toArray];rw[show its.length=its'.length by lia];simp]
  exact fin
 |non=>cases sd
 |bl b=>cases sd
 |int i=>cases sd
 |str z=>cases sd
theorem op_neS(hu:X.A.units+64<cLine):OpR X (compareOp .NotEq) (rSame false):=by
 intro pins s σ H x y v u Q I rx ry h
 obtain⟨n,d,hx,hy,sd,hn,q⟩:=h
 have fin:EP X pins σ Q (.bool false) s:=⟨.bl false,H,I,rfl,q⟩
 cases d with
 |lst ds =>
  obtain⟨a,xs,rfl,xl,ha,px⟩:=hx
  obtain⟨b,ys,rfl,yl,hb,py⟩:=hy
  cases rx
  cases ry
  obtain⟨its,r,pl,hz⟩:=I.list (SqL.of ha)
  obtain⟨its',r',pl',hz'⟩:=I.list (SqL.of hb)
  have l1:=r.length
  have l2:=r'.length
  have l3:xs.length=ds.length:=Paired.length px
  have l4:ys.length=ds.length:=Paired.length py
  refine SeqAt.RcNeAt.lists (e:=fun _=>true) pl.isList pl'.isList (by simp only[List.size_toArray];lia) (by lia) (items_same I px py r r' (by show X.A.units+1+n<cLine;lia)) _ _ _ _ ?_
  rw[show(!(List.range its.toArray.size).all (fun _=>true))=false by simp]
  exact fin
 |tup ds =>
  obtain⟨a,xs,rfl,xl,ha,px⟩:=hx
  obtain⟨b,ys,rfl,yl,hb,py⟩:=hy
  cases rx
  cases ry
  obtain⟨its,r,pl,hz⟩:=I.tuple (SqT.of ha)
  obtain⟨its',r',pl',hz'⟩:=I.tuple (SqT.of hb)
  have l1:=r.length
  have l2:=r'.length
  have l3:xs.length=ds.length:=Paired.length px
  have l4:ys.length=ds.length:=Paired.length py
  refine SeqAt.RcNeAt.tuples (e:=fun _=>true) pl pl' (by lia) (items_same I px py r r' (by show X.A.units+1+n<cLine;lia)) _ _ _ _ ?_
  rw[show(!((List.range (min its.toArray.size its'.toArray.size)).all (fun _=>true) && its.toArray.size == its'.toArray.size))=false by simp only[List.size_toArray];rw[show its.length=its'.length by lia];simp]
  exact fin
 |non=>cases sd
 |bl b=>cases sd
 |int i=>cases sd
 |str z=>cases sd
end
theorem hu64{A:Around}{k:Nat}(hr:Room k A):A.units+64<cLine:=hr.units
theorem dat_intsT{H:Hp}{a:Addr}{ns:List Int}(n:Nat)(h:H a=some (.tup (ns.map V.int)))(l:ns.length<=1000):Dat H (n+1) (.ref a) (.tup (ns.map Dt.int)):=by
 refine⟨a,_,rfl,by rw[List.length_map];exact l,h,?_⟩
 clear h l
 induction ns with
 |nil=>exact .nil
 |cons x r ih=>refine .cons ?_ ih;cases n <;> rfl
open PySem PySem.Spec PyProof.Rows
open PySem PySem.W PyProof.Rows
section
variable{X:Cx}
noncomputable def tBM0h(r:V->List V->Hp->VK->Prop)(to:TE):TE:=fun σ H Q=>to σ H fun x H1=>(∃ p xs,x = .ref p/\H1 p=some (.lst xs))/\r x [] H1 Q
theorem pe_bm0H{id:String}{name:Str}{r:V->List V->Hp->VK->Prop}{o:Expr}{to:TE}{apos cpos:Pos}(slot:Slot "list" name id)(hty:typeOf (.builtin id)=pure (.type "method_descriptor"))(hm:MtR X id r)(ho:PE X o to)
  (hbase:attributeBase o name X.env (eval o X.env)=eval o X.env:=by rfl) (hline:(apos.endLine == cpos.line)=true:=by rfl):PE X (.Call (.Attribute o name apos) [] [] cpos) (tBM0h r to):=by
 intro pins s σ H Q I h
 refine wpAny_Call_method0_late hbase hline (thn (ho pins s σ H _ I h) fun v s1 ⟨x,H1,I1,r1,⟨p,xs,ex,hx⟩,q1⟩=>?_)
 subst ex
 obtain⟨h1,h2⟩:=tyV_is (T:="list") I1 r1 (.inl ⟨rfl,xs,SqL.of hx⟩)
 exact⟨"list",id,PySem.F.plainAttrs_list,slot,hty,h1,h2,Calls.callWith_builtin rfl (PySem.evalArgs_none (hm pins s1 σ H1 _ [] v [] Q I1 r1 .nil q1))⟩
end
end L2
namespace K45
open PySem L2 PyProof.Rows
structure CalF(P:Program)(w:World)(K:PySem.W.Frag)(mg:Str->Option Value)(base:Heap)(k:Nat)(x:Str)(ps:List Str)(sp:Sp)(g:Addr)(gd:FuncData):Prop where
 ok:FnOk P w K mg base CX0 k g gd ps sp
 mg:mg x=some (.ref g)
 kp:PySem.W.keepIn K (.ref g)=true
 bd:Binds K gd ps []
structure Txt2(mg:Str->Option Value):Prop where
 all:mg "all" = none
 zip:mg "zip" = none
 enum:mg "enumerate" = none
 dict:mg "dict" = none
noncomputable abbrev scO(l:List (Str×NameKind)):Scope:={ kind:=.function,names:=l,isGenerator:=false,isCoroutine:=false }
noncomputable def pairOf(x:Tie):List Int:=[x.1,x.2.1]
end K45
namespace HT
open PySem PySem.Spec PyProof.Rows
section
variable{prog:Program}{w:World}{A:Around}{E:Value->Shared->Prop}{s:Shared}
theorem getItem_tuple_whole{t sl:Addr}{items:Array Value}{vl vu:Value}{lo hi:Option Int}{Q:Value->Shared->Prop}(ht:IsTup s.heap t items)(hs:s.heap.IsSliceOf sl vl vu .none)(pl:IsPart vl lo)(pu:IsPart vu hi)
  (hw:sIx items.size 0 lo=0/\sIx items.size items.size hi=items.size)
  (h:Q (.ref t) s):wpAny (model prog w) A (getItem (.ref t) (.ref sl)) Q E s:=by
 obtain⟨os,hos,hcs,hds⟩:=id hs
 have hTs:s.TypeIs (.ref sl) "slice":=⟨os,hos,hcs⟩
 unfold getItem
 try with_reducible refine wpAny_holding ?_
 first | refine wpAny_bind (wpAny_pure ?_) | skip
 refine wpAny_bind (wpAny_sequenceKey ht.typeIs (by decide) ?_)
 refine wpAny_bind (wpAny_callSpecial?_slot (name:=Str.ofString "__getitem__") ht.typeIs PyProof.Rows.slot_tuple_getitem
  (wpAny_call_entry PyProof.Rows.slot_tuple_getitem ht.typeIs entry_tuple_getitem ?_ (args_tuple_getitem _ _)))
 show wpAny _ _ (Builtin.Tuple.tupleItemsOf (.ref t) >>= _) _ _ s
 refine wpAny_bind (tupleItemsOf_ ht ?_)
 refine wpAny_bind (wpAny_typeOf hTs ?_)
 rw[if_pos (by decide)]
 refine wpAny_bind (sliceApplied_gen hs pl pu ?_)
 have hyes:(((sIx items.size 0 lo:Nat):Int) == 0 && (1:Int) == 1 && (sIx items.size items.size hi-sIx items.size 0 lo) == items.size)=true:=by
  rw[hw.1,hw.2]
  simp
 show wpAny _ _ (if(((sIx items.size 0 lo:Nat):Int) == 0 && (1:Int) == 1 && (sIx items.size items.size hi-sIx items.size 0 lo) == items.size)=true then _ else _) _ _ s
 rw[if_pos hyes]
 refine wpAny_bind (m:=Builtin.Tuple.tupleIsExact (.ref t)) ?_
 unfold Builtin.Tuple.tupleIsExact
 refine wpAny_bind (wpAny_typeOf ht.typeIs (wpAny_pure ?_))
 rw[if_pos (by decide)]
 refine wpAny_bind (wpAny_rule ?_)
 first
  |exact wpAny_pure ⟨_,rfl,wpAny_pure h⟩
  |exact wpAny_bind (wpAny_pure (wpAny_pure ⟨_,rfl,wpAny_pure h⟩))
  |exact wpAny_bind (wpAny_pure ⟨_,rfl,wpAny_pure h⟩)
end
end HT
namespace L2
open PySem PySem.W PyProof.Rows
variable{X:Cx}
inductive rSlAI(x:V)(lo:Option Int)(hi:Option Int)(H:Hp)(Q:VK):Prop where
 |mk (a:_) (xs:_) (h1:x = .ref a) (h2:H a=some (.tup xs)) (h3:∀ p H',Same H H'->H' p=some (.tup (cutV xs lo hi))->Q (.ref p) H')
noncomputable def rSlA:V->Option Int->Option Int->Hp->VK->Prop:=fun x lo hi H Q=>rSlAI x lo hi H Q
theorem sl_tupA:SlR X rSlA:=by
 intro pins s σ H x v vl vu lo hi sl Q I rx hs pl pu h
 obtain⟨a,xs,rfl,hx,q⟩:=h
 by_cases hw:HT.sIx xs.length 0 lo=0/\HT.sIx xs.length xs.length hi=xs.length
 ·cases rx
  obtain⟨its,r,ht,hz⟩:=I.tuple (SqT.of (K:=X.K) hx)
  have hlen:its.toArray.size=xs.length:=by rw[List.size_toArray];exact r.length.symm
  refine⟨"tuple",_,PyProof.Rows.slot_tuple_getitem.lookup,ht.typeIs,?_⟩
  refine HT.getItem_tuple_whole ht hs pl pu (by rw[hlen];exact hw) ⟨.ref a,H,I,rfl,q a H (Same.refl _) ?_⟩
  unfold cutV
  rw[hw.1,hw.2,List.drop_zero,Nat.sub_zero,List.take_length]
  exact hx
 ·exact sl_tup pins s σ H _ v vl vu lo hi sl Q I rx hs pl pu ⟨a,xs,rfl,SqT.of hx,hw,fun p hp=>q p _ (Same.new hp) upd_same⟩
inductive rCatBI(x:V)(y:V)(H:Hp)(Q:VK):Prop where
 |mk (a:_) (b:_) (xs:_) (ys:_) (h1:x = .ref a) (h2:y = .ref b) (h3:H a=some (.tup xs)) (h4:H b=some (.tup ys)) (h5:xs.length+ys.length<=sizeLine) (h6:∀ p H',Same H H'->H' p=some (.tup (xs++ys))->Q (.ref p) H')
noncomputable def rCatB:R2:=fun x y H Q=>rCatBI x y H Q
theorem op_catB:OpR X (binaryOp .Add) rCatB:=by
 intro pins s σ H x y v u Q I rx ry h
 obtain⟨a,b,xs,ys,rfl,rfl,ha,hb,hz,q⟩:=h
 refine op_catA pins s σ H _ _ v u Q I rx ry ⟨a,b,xs,ys,rfl,rfl,SqT.of ha,SqT.of hb,hz,fun e=>q b H (Same.refl _) ?_,fun _ e=>q a H (Same.refl _) ?_,fun _ _ p hp=>q p _ (Same.new hp) upd_same⟩
 ·rw[e];exact hb
 ·rw[e,List.append_nil];exact ha
noncomputable def wo(p:Addr)(H:Hp):Hp:=fun b=>if b=p then none else H b
theorem wo_ne{p b:Addr}{H:Hp}(h:b≠p):wo p H b=H b:=if_neg h
theorem wo_same{p:Addr}{H:Hp}:Same (wo p H) H:=fun b o e=>by
 by_cases z:b=p
 ·rw[wo,if_pos z]at e;cases e
 ·rw[wo_ne z]at e;exact e
theorem wo_some{p b:Addr}{H:Hp}{o:HO}(h:b≠p)(e:H b=some o):wo p H b=some o:=by rw[wo_ne h];exact e
open PySem PySem.W PyProof.Rows Srt HT
section
variable{X:Cx}
noncomputable def tRev(K:PySem.W.Frag)(te ts:TE):TE:=fun σ H Q=>te σ H fun x H1=>ts σ H1 fun y H2=>∃ a xs,x = .ref a/\y = .int (-1)/\SqL K H2 a xs/\∀ p,H2 p=none->Q (.ref p) (upd H2 p (.lst xs.reverse))
theorem pick_rev(its:List Value):slicePick its.toArray none none (some (-1))=its.reverse.toArray:=by
 have e:sliceBounds none none (some (-1)) its.toArray.size=((its.length:Int)-1,-1,-1):=by
  simp[sliceBounds]
 unfold slicePick
 rw[e]
 congr 1
 have r:sliceRange ((its.length:Int)-1) (-1) (-1)=(List.range its.length).map fun k=>its.length-1-k:=by
  unfold sliceRange
  have c:(if(-1:Int) > 0 then(if((its.length:Int)-1) < -1 then(-1-((its.length:Int)-1) + -1-1) / -1 else 0)else(if((its.length:Int)-1) > -1 then(((its.length:Int)-1) - -1 - -1-1) / (- -1)else 0)).toNat=its.length:=by
   rw[if_neg (by decide)]
   split
   ·have:(((its.length:Int)-1) - -1 - -1-1) / (- -1)=its.length:=by
     rw[show(- (-1:Int))=1 from rfl,Int.ediv_one]
     lia
    rw[this]
    exact Int.toNat_natCast _
   ·lia
  dsimp only
  rw[c]
  apply List.map_congr_left
  intro k hk
  have:=List.mem_range.mp hk
  lia
 dsimp only
 rw[r]
 rw[List.filterMap_map]
 have fm:∀ (l:List Nat) (f:Nat->Option Value) (g:Nat->Value),(∀ k∈l,f k=some (g k))->l.filterMap f=l.map g:=by
  intro l f g
  induction l with
  |nil=>intro _;rfl
  |cons k l ih =>
   intro h
   rw[List.filterMap_cons,h k (List.mem_cons_self ..),List.map_cons,ih fun k hk=>h k (List.mem_cons_of_mem _ hk)]
 rw[fm _ _ (fun k=>its.getD (its.length-1-k) .none) fun k hk=>?_]
 ·apply List.ext_getElem
  ·simp
  ·intro i h1 h2
   rw[List.length_map,List.length_range]at h1
   rw[List.getElem_map,List.getElem_range,List.getElem_reverse,List.getD_eq_getElem?_getD,List.getElem?_eq_getElem (by omega)]
   rfl
 ·have:=List.mem_range.mp hk
  show its.toArray[its.length-1-k]?=_
  rw[List.getElem?_toArray,List.getD_eq_getElem?_getD,List.getElem?_eq_getElem (by omega)]
  rfl
theorem Vals.rev:∀ {xs:List V}{us:List Value},Vals xs us->Vals xs.reverse us.reverse
 | _,_,.nil=>.nil
 | _,_,.cons h t=>by
  rw[List.reverse_cons,List.reverse_cons]
  exact(Vals.rev t).append (.cons h .nil)
theorem pe_rev{e st:Expr}{te ts:TE}{p2 pos:Pos}(he:PE X e te)(hst:PE X st ts):PE X (.Subscript e (.Slice none none (some st) p2) pos) (tRev X.K te ts):=by
 intro pins s σ H Q I h
 refine Subscript_ (thn (he pins s σ H _ I h) fun v s1 ⟨x,H1,I1,r1,q1⟩=>?_)
 refine wpAny_Slice ?_
 rw[evalPart_none,evalPart_some]
 refine wpAny_pure (wpAny_pure (thn (hst pins s1 σ H1 _ I1 q1) fun w' s3 ⟨y,H3,I3,r3,q3⟩=>?_))
 obtain⟨a,xs,rfl,rfl,hx,q⟩:=q3
 cases r1
 obtain⟨tk,rfl⟩:=r3
 have I4:Inv X pins σ H3 { s3 with heap:=s3.heap.push { cls:=.type "slice",data:=.fields #[.none,.none,.int (-1) tk] } }:=I3.kept (t':=s3.toks) fun b ob q=>Heap.get?_push_of_some _ q
 obtain⟨its,r,ht,hz⟩:=I4.list hx
 show wpAny (model X.prog X.w) X.A (subscriptTail e (.Slice none none (some st) p2) (.ref a) (.ref s3.heap.objs.size)) (EP X pins σ Q) X.xe { s3 with heap:=s3.heap.push { cls:=.type "slice",data:=.fields #[.none,.none,.int (-1) tk] } }
 refine tail_any (ops:=[.ref a,.ref s3.heap.objs.size]) ht.isList.typeIs slot_list_getitem.lookup ?_ (by with_unfolding_all rfl)
 have hlen:=r.length
 refine wpAny_getItem_list_slice ht.isList (Heap.IsSliceOf.new ..) .none .none (.int (-1) tk) (by decide) ?_ (by rw[List.size_toArray] <;> lia)
 rw[pick_rev its]
 refine⟨.ref _,_,I4.laid (t':=s3.toks) (o:=.lst xs.reverse) (fun b ob q=>Heap.get?_push_of_some _ q) (Nat.le_refl _) ?_,rfl,q _ (I4.hok.fresh (Nat.le_refl _))⟩
 refine⟨by rw[List.length_reverse];exact hz,its.reverse,0,?_,Heap.get?_push_size _ rfl⟩
 exact r.rev
end
end L2
namespace SetA
open PySem L2
end SetA
namespace L2
open PySem PySem.W PyProof.Rows
theorem pe_bmK{X:Cx}(K:PySem.W.Frag)(eK:X.K=K){T id:String}{name:Str}{r:V->List V->Hp->VK->Prop}{o e:Expr}{es:List Expr}{to:TE}{t:TA}{apos cpos:Pos}(pa:PlainAttrs T)(slot:Slot T name id)(hty:typeOf (.builtin id)=pure (.type "method_descriptor"))(hm:MtR X id r)(ho:PE X o to)(ha:PA X (e :: es) t)
  (hbase:attributeBase o name X.env (eval o X.env)=eval o X.env:=by rfl)
  (hfew:((backTo cpos (starEach (e :: es) X.env)).all (fun x=>!x.1) && (backToKw cpos (keywordEach [] X.env)).all (fun x=>x.1.isSome) && decide ((e :: es).length+([]:List Keyword).length+(if([]:List Keyword).isEmpty then 0 else 1)<30))=true:=by rfl)
  (hline:(apos.endLine == cpos.line)=true:=by rfl) (hs:starEach (e :: es) X.env=(false,eval e X.env) :: starEach es X.env:=by rfl) (hplain:(backTo cpos (starEach es X.env)).any (·.1)=false:=by rfl):PE X (.Call (.Attribute o name apos) (e :: es) [] cpos) (tBM K T r to t):=by
 subst eK
 exact pe_bm pa slot hty hm ho ha hbase hfew hline hs hplain
theorem call_len_seqK{X:Cx}(K:PySem.W.Frag)(e:X.K=K):CallR X (.builtin "len") (fun xs H Q=>∃ p ys,xs=[.ref p]/\(SqL K H p ys\/SqT K H p ys)/\Q (.int ys.length) H):=e▸call_len_seq
theorem map_eraseI:∀ (l:List Int) (k:Nat),(l.map V.int).eraseIdx k=(l.eraseIdx k).map V.int
 |[],k=>by cases k <;> rfl
 |x :: r,0=>rfl
 |x :: r,k+1=>by
  show V.int x :: (r.map V.int).eraseIdx k=V.int x :: (r.eraseIdx k).map V.int
  rw[map_eraseI r k]
noncomputable def SIs(b:Bool)(H:Hp)(a:Addr)(xs:List V):Prop:=match b with
 |true=>H a=some (.tup xs)
 |false=>H a=some (.lst xs)
theorem SIs.sqB{b:Bool}{K:PySem.W.Frag}{H:Hp}{a:Addr}{xs:List V}(h:SIs b H a xs):SqB b K H a xs:=by
 cases b
 ·exact SqL.of h
 ·exact SqT.of h
theorem SIs.or{b:Bool}{K:PySem.W.Frag}{H:Hp}{a:Addr}{xs:List V}(h:SIs b H a xs):SqL K H a xs\/SqT K H a xs:=by
 cases b
 ·exact .inl (SqL.of h)
 ·exact .inr (SqT.of h)
theorem SIs.same{b:Bool}{H H':Hp}{a:Addr}{xs:List V}(h:SIs b H a xs)(s:Same H H'):SIs b H' a xs:=by
 cases b
 ·exact s _ _ h
 ·exact s _ _ h
inductive rSlBI(b:Bool)(x:V)(lo:Option Int)(hi:Option Int)(H:Hp)(Q:VK):Prop where
 |mk (a:_) (xs:_) (h1:x = .ref a) (h2:SIs b H a xs) (h3:∀ p H',Same H H'->SIs b H' p (cutV xs lo hi)->Q (.ref p) H')
noncomputable def rSlB(b:Bool):V->Option Int->Option Int->Hp->VK->Prop:=fun x lo hi H Q=>rSlBI b x lo hi H Q
theorem sl_B{X:Cx}(b:Bool):SlR X (rSlB b):=by
 intro pins s σ H x v vl vu lo hi sl Q I rx hs pl pu h
 obtain⟨a,xs,rfl,hx,q⟩:=h
 cases b
 ·exact sl_list pins s σ H _ v vl vu lo hi sl Q I rx hs pl pu ⟨a,xs,rfl,SqL.of hx,fun p hp=>q p _ (Same.new hp) upd_same⟩
 ·exact sl_tupA pins s σ H _ v vl vu lo hi sl Q I rx hs pl pu ⟨a,xs,rfl,hx,fun p H' s' g=>q p H' s' g⟩
end L2
namespace K45
open PySem L2 PyProof.Rows
theorem upto_nodup(n:Nat):(upto n).Nodup:=by
 unfold upto List.Nodup
 rw[List.pairwise_map]
 exact(List.nodup_range (n:=n)).imp fun {a b} ne e=>ne (by lia)
theorem Kept.same{p:Addr}{H H':Hp}(h:H p=none)(k:Kept p H H'):Same H H':=fun b o e=>k b o (ne_of_none e h) e
theorem WebAt.kept{H H':Hp}{p t:Addr}{n:Nat}{ties:List Tie}{N:Nat}(W:WebAt H t n ties)(B:BoxAt H p N)(k:Kept p H H'):WebAt H' t n ties:=by
 obtain⟨⟨ts,as,h1,h2,h3⟩,l⟩:=W
 obtain⟨a,b,c,e,_⟩:=B
 have ne:∀ {q xs},H q=some (.tup xs)->q≠p:=fun hq=>ne_of hq e (by intro z;cases z)
 exact⟨⟨ts,as,k _ _ (ne h1) h1,k _ _ (ne h2) h2,Paired.mapP h3 fun a x e=>k _ _ (ne e) e⟩,l⟩
theorem BoxAt.same{H H':Hp}{p:Addr}{N:Nat}(B:BoxAt H p N)(s:Same H H'):BoxAt H' p N:=by
 obtain⟨a,b,c,e,r⟩:=B
 exact⟨a,b,c,s _ _ e,r⟩
open PySem L2 PyProof.Rows
structure PostOk(n:Nat)(ps:List Int):Prop where
 nd:ps.Nodup
 rg:∀ x∈ps,0<=x/\x<n
 lo:1<=ps.length
 hi:ps.length<=6
 ri:ps.Pairwise (·<=·)
inductive spPoI(vs:List V)(H:Hp)(Q:VK):Prop where
 |mk (p:Addr) (n N:Nat) (mo:Int) (h1:vs=[.ref p,.int n,.int mo]) (h2:BoxAt H p N) (h3:N+100<2 ^ 40) (h4:2<=n) (h5:n<=30) (h6:2<=mo) (h7:mo<=6) (h8:∀ (l:Addr) (ps:List Int) (H':Hp),H l=none->H' l=some (.lst (ps.map V.int))->l≠p->PostOk n ps->2<=ps.length->(ps.length:Int)<=mo->BoxAt H' p (N+20)->Kept p H H'->Q (.ref l) H')
noncomputable def spPo:Sp:=fun vs H Q _=>spPoI vs H Q
section
variable{P:Program}{w:World}{K:PySem.W.Frag}{mg:Str->Option Value}{base:Heap}
noncomputable abbrev nPo:List Str:=["_law_box_here","_law_many_here","_law_most","_law_some","_law_found"]
theorem scPo:FnScope nPo ["_law_box_here","_law_many_here","_law_most"] (defScope sPosts):=⟨rfl,rfl,rfl,by decide +kernel,rfl,by decide +kernel,by decide +kernel⟩
theorem csPo:CompScope ["_law_turn","_law_box_here","_law_some"] [none,some 0,some 3] nPo (defScope sPosts) (scO [(".0",.local),("_law_turn",.local),("_law_take",.globalImplicit),("len",.globalImplicit),("_law_box_here",.free),("_law_some",.free)]):=⟨rfl,by decide +kernel,by decide +kernel,by decide +kernel,rfl,capB_ok (by decide +kernel)⟩
theorem ndPo:(["_law_turn","_law_box_here","_law_some"]:List Str).Nodup:=by decide +kernel
theorem ok_po{f g:Addr}{fd gd:FuncData}(F:Fun K "_law_posts" "_law_posts" sPosts f fd)(T:Txt mg)(G:TakeF P w K mg base g gd):FnOk P w K mg base CX0 2 f fd ["_law_box_here","_law_many_here","_law_most"] spPo:=by
 refine F.ok scPo (fun vs H Q E h=>?_) (fun cdv A outer s H vs Q E hr h=>?_)
 ·obtain⟨p,n,N,mo,rfl,_⟩:=h
  rfl
 ·obtain⟨p,n,N,mo,rfl,B,hN,n1,n30,mo0,mo6,q⟩:=h
  refine⟨_,pss_cons (ps_set (i:=3) scPo.nd rfl (Or.inr rfl) (pe_callTy (call_list_rng rfl) (by rfl) T.list boot_list (@pa_call _ _ _ _ _ _ _ _ (pe_callTy (call_range _) (by rfl) T.range boot_range (@pa_nam _ _ _ _ _ _ (pv 1) pa_nil)) pa_nil)))
   (pss_cons (ps_comp (i:=4) scPo.nd rfl (Or.inl rfl) rfl csPo (pi_range1 rfl T.range (@pa_call _ _ _ _ _ _ _ _ (pe_callB (call_min2 rfl) (by rfl) T.min boot_min (@pa_nam _ _ _ _ _ _ (pv 1) (@pa_bin _ _ _ _ _ _ _ _ (pe_op op_add pe_int (pe_call G.ok hr rfl G.mg G.kp G.bd .nil pass0 (@pa_nam _ _ _ _ _ _ (pv 0) (@pa_bin _ _ _ _ _ _ _ _ (pe_op op_sub (pv 2) pe_int) pa_nil)))) pa_nil))) pa_nil))
    (fun C s H fp=>pg_name (i:=0) ndPo rfl (Or.inl rfl)) (fun C s H fp=>pf_nil)
    (fun C s H fp=>pe_bmK K rfl PySem.F.plainAttrs_list PySem.F.slot_list_pop PySem.F.type_list_pop mt_popAt (pv 2) (@pa_call _ _ _ _ _ _ _ _ (pe_call G.ok hr rfl G.mg G.kp G.bd .nil pass0 (@pa_nam _ _ _ _ _ _ (pv 1) (@pa_call _ _ _ _ _ _ _ _ (pe_callB (call_len_seqK K rfl) (by rfl) T.len PySem.boot_len (@pa_nam _ _ _ _ _ _ (pv 2) pa_nil)) pa_nil))) pa_nil)))
   (pss_one (ps_ret (pe_callB call_sortedI (by rfl) T.sorted boot_sorted (@pa_nam _ _ _ _ _ _ (pv 4) pa_nil))))),?_⟩
  refine⟨_,rfl,_,rfl,fun r hr=>⟨r,_,rfl,upd_same,by lia,by lia,fun so hso=>?_⟩⟩
  rw[show((n:Int)).toNat=n by lia]
  have so0:H so=none:=(Same.new (o:=.rng 0 (n:Int)) hr).free hso
  have sop:so≠p:=B.ne so0
  have s1:=(Same.new (o:=.rng 0 (n:Int)) hr).trans (Same.new (o:=.lst ((upto n).map V.int)) hso)
  have gs:(upd (upd H r (.rng 0 (n:Int))) so (.lst ((upto n).map V.int))) so=some (.lst ((upto n).map V.int)):=upd_same
  generalize (upd (upd H r (.rng 0 (n:Int))) so (.lst ((upto n).map V.int)))=H1 at s1 gs
  have B1:=B.same s1
  refine⟨_,rfl,_,rfl,_,rfl,_,_,rfl,rfl,p,_,N,rfl,B1,by lia,by lia,by lia,fun z H2 z0 z1 B2 k2=>?_⟩
  refine⟨_,_,rfl,rfl,_,_,rfl,_,rfl,by split <;> lia,by split <;> lia,?_⟩
  obtain⟨ct,ec,c1,c2,c3⟩:∃ ct:Nat,(if 2+z <(n:Int)then 2+z else(n:Int)).toNat=ct/\ct<=n/\(ct:Int)<=mo/\2<=ct:=⟨_,rfl,by split <;> lia,by split <;> lia,by split <;> lia⟩
  rw[ec]
  have k1:Kept p H H1:=fun b o _ e=>s1 b o e
  refine comp_range (lo:=0) (n:=ct) (fun j ys G2=>BoxAt G2 p (N+1+j)/\Kept p H G2/\∃ (rs qs:List Int),G2 so=some (.lst (rs.map V.int))/\ys=qs.map V.int/\(qs++rs).Perm (upto n)/\qs.length=j) (by rw[sizeLine_eq];omega)
   ⟨B2,k1.trans k2,upto n,[],k2 _ _ sop gs,rfl,.refl _,rfl⟩ ?_ ?_
  ·rintro j ys G2 hj ⟨B3,k3,rs,qs,gs3,rfl,pm,ql⟩
   have rl:qs.length+rs.length=n:=by
    have:=pm.length_eq
    rw[List.length_append,upto_length]at this
    exact this
   refine⟨⟨rfl,rfl,trivial⟩,tTru_if ⟨_,rfl,.inl ⟨rfl,_,SqL.of gs3⟩,_,rfl,_,rfl,so,_,rfl,.inl (SqL.of gs3),p,_,_,rfl,B3,by lia,by rw[List.length_map];lia,by rw[List.length_map];lia,fun y G3 y0 y1 B4 k4=>?_⟩⟩
   rw[List.length_map]at y1
   obtain⟨k,rfl⟩:∃ k:Nat,y=(k:Int):=⟨y.toNat,by lia⟩
   have kl:k<rs.length:=by omega
   have gs4:=k4 _ _ sop gs3
   refine⟨so,rs.map V.int,(k:Int),k,V.int rs[k],rfl,rfl,gs4,by lia,by lia,?_,by rw[List.getElem?_map,List.getElem?_eq_getElem kl];rfl,?_⟩
   ·unfold seqIndex?
    rw[List.length_map]
    simp
    omega
   rw[map_eraseI]
   refine⟨(B4.put sop).mono (by lia),(k3.trans k4).put so0,rs.eraseIdx k,qs++[rs[k]],upd_same,by rw[List.map_append];rfl,?_,by rw[List.length_append,ql];rfl⟩
   rw[List.append_assoc]
   exact(List.Perm.append_left _ (SetA.cut_perm k rs kl)).trans pm
  ·rintro ys G2 yl ⟨B3,k3,rs,qs,gs3,rfl,pm,ql⟩ D hD
   have sD:=Same.new (o:=.lst (qs.map V.int)) hD
   refine⟨_,rfl,D,qs,rfl,SqL.of upd_same,by omega,fun l ms hl pq pw=>?_⟩
   have hl2:=sD.free hl
   have sL:=Same.new (o:=.lst (ms.map V.int)) hl
   refine q l ms _ (k3.free B3 hl2) upd_same (B3.ne hl2) ?_ (by rw[pq.length_eq];lia) (by rw[pq.length_eq];lia) (((B3.same sD).same sL).mono (by lia)) (k3.trans (fun b o _ e=>sL b o (sD b o e)))
   have nd:=upto_nodup n
   have ndq:(qs++rs).Nodup:=pm.nodup_iff.mpr nd
   refine⟨pq.nodup_iff.mpr (List.nodup_append.mp ndq).1,fun x hx=>?_,by rw[pq.length_eq];lia,by rw[pq.length_eq];omega,pw⟩
   have hx:x∈upto n:=pm.mem_iff.mp (List.mem_append_left _ (pq.mem_iff.mp hx))
   unfold upto at hx
   obtain⟨i,hi,e⟩:=List.mem_map.mp hx
   have:=List.mem_range.mp hi
   omega
end
open PySem L2 PyProof.Rows
noncomputable def besideOf(ties:List Tie)(i:Int):List (Int×Int):=ties.flatMap fun x=>if x.1=i then [(x.2.1,x.2.2)]else if x.2.1=i then [(x.1,x.2.2)]else []
theorem besideOf_snoc{ties:List Tie}{x:Tie}{i:Int}:besideOf (ties++[x]) i=besideOf ties i++if x.1=i then [(x.2.1,x.2.2)]else if x.2.1=i then [(x.1,x.2.2)]else []:=by
 unfold besideOf
 rw[List.flatMap_append,List.flatMap_cons,List.flatMap_nil,List.append_nil]
theorem beside_len:∀ (ties:List Tie) (i:Int),(besideOf ties i).length<=ties.length
 |[],_=>Nat.le_refl _
 |x :: r,i=>by
  unfold besideOf
  rw[List.flatMap_cons,List.length_append]
  have:=beside_len r i
  unfold besideOf at this
  have h2:(if x.1=i then [(x.2.1,x.2.2)]else if x.2.1=i then [(x.1,x.2.2)]else []).length<=1:=by
   split
   ·exact Nat.le_refl _
   ·split
    ·exact Nat.le_refl _
    ·exact Nat.zero_le _
  simp only[List.length_cons]
  lia
open PySem L2 PyProof.Rows
noncomputable def BesAt(H:Hp)(as:List Addr)(ties:List Tie):Prop:=∀ (i:Nat) (h:i<as.length),∃ cs:List Addr,H as[i]=some (.lst (cs.map V.ref))/\Paired (fun c (x:Int×Int)=>H c=some (.tup [.int x.1,.int x.2])) cs (besideOf ties i)
theorem BesAt.same{H H':Hp}{as:List Addr}{ties:List Tie}(B:BesAt H as ties)(s:Same H H'):BesAt H' as ties:=fun i h=>by
 obtain⟨cs,e,p⟩:=B i h
 exact⟨cs,s _ _ e,Paired.mapP p fun c x z=>s _ _ z⟩
theorem BesAt.put{H:Hp}{as:List Addr}{g:Int->List (Int×Int)}{j:Nat}{y:Int×Int}{tp:Addr}{cs0:List Addr}(nd:as.Nodup)(hj:j<as.length)
  (B:∀ (i:Nat) (h:i<as.length),∃ cs:List Addr,H as[i]=some (.lst (cs.map V.ref))/\Paired (fun c (x:Int×Int)=>H c=some (.tup [.int x.1,.int x.2])) cs (g i)) (e0:H as[j]=some (.lst (cs0.map V.ref))) (ht:H tp=some (.tup [.int y.1,.int y.2])) :
  ∀ (i:Nat) (h:i<as.length),∃ cs:List Addr,(upd H as[j] (.lst (cs0.map V.ref++[.ref tp]))) as[i]=some (.lst (cs.map V.ref))/\Paired (fun c (x:Int×Int)=>(upd H as[j] (.lst (cs0.map V.ref++[.ref tp]))) c=some (.tup [.int x.1,.int x.2])) cs (g i++if(i:Int)=j then [y]else []):=fun i h=>by
 obtain⟨cs,e,p⟩:=B i h
 have p2:Paired (fun c (x:Int×Int)=>(upd H as[j] (.lst (cs0.map V.ref++[.ref tp]))) c=some (.tup [.int x.1,.int x.2])) cs (g i):=Paired.mapP p fun c x z=>by rw[upd_ne (ne_of z e0 (by intro z;cases z))];exact z
 by_cases ij:i=j
 ·subst ij
  rw[e]at e0
  have ec:cs0=cs:=by
   injection e0 with e0
   injection e0 with e0
   have:=congrArg (List.map (fun v=>match v with | V.ref a=>a | _=>0)) e0
   rw[List.map_map,List.map_map]at this
   have idl:∀ l:List Addr,l.map ((fun v=>match v with | V.ref a=>a | _=>0) ∘ V.ref)=l:=fun l=>by
    induction l with
    |nil=>rfl
    |cons a r ih=>rw[List.map_cons,ih];rfl
   rw[idl,idl]at this
   exact this.symm
  subst ec
  refine⟨cs0++[tp],by rw[upd_same,List.map_append];rfl,?_⟩
  rw[if_pos rfl]
  exact Paired.snoc p2 (by rw[upd_ne (ne_of ht e (by intro z;cases z))];exact ht)
 ·have ne:as[i]≠as[j]:=fun z=>ij ((List.getElem_inj nd).mp z)
  refine⟨cs,by rw[upd_ne ne];exact e,?_⟩
  rw[if_neg (by lia),List.append_nil]
  exact p2
inductive spBesI(vs:List V)(H:Hp)(Q:VK):Prop where
 |mk (t:Addr) (n:Nat) (ties:List Tie) (h1:vs=[.ref t]) (h2:WebAt H t n ties) (h3:(∀ x∈ties,TieOk n x)) (h4:n<=1000) (h5:∀ (b:Addr) (as:List Addr) (H':Hp),H' b=some (.lst (as.map V.ref))->as.length=n->BesAt H' as ties->Same H H'->Q (.ref b) H')
noncomputable def spBes:Sp:=fun vs H Q _=>spBesI vs H Q
section
variable{P:Program}{w:World}{K:PySem.W.Frag}{mg:Str->Option Value}{base:Heap}
noncomputable abbrev nBes:List Str:=["web","many","ties","beside","a","b","weight"]
theorem scBes:FnScope nBes ["web"] (defScope sBesideEach):=⟨rfl,rfl,rfl,by decide +kernel,rfl,by decide +kernel,by decide +kernel⟩
theorem csBes:CompScope ["place"] [none] nBes (defScope sBesideEach) (scO [(".0",.local),("place",.local)]):=⟨rfl,by decide +kernel,by decide +kernel,by decide +kernel,rfl,capB_ok (by decide +kernel)⟩
theorem ndBes:(["place"]:List Str).Nodup:=by decide +kernel
theorem ok_bes{f:Addr}{fd:FuncData}(F:Fun K "beside_each" "beside_each" sBesideEach f fd)(T:Txt mg):FnOk P w K mg base CX0 1 f fd ["web"] spBes:=by
 refine F.ok scBes (fun vs H Q E h=>?_) (fun cdv A outer s H vs Q E hr h=>?_)
 ·obtain⟨t,n,ties,rfl,_⟩:=h
  rfl
 ·obtain⟨t,n,ties,rfl,W,ok,nb,q⟩:=h
  obtain⟨⟨ts,bs,h1,h2,h3⟩,len⟩:=id W
  have h3l:bs.length=ties.length:=h3.length
  refine⟨_,pss_cons (ps_asg (pv 0) (pg_tup (n:=2) rfl (pgs_cons (pg_name (i:=1) scBes.nd rfl (Or.inl rfl)) (pgs_cons (pg_name (i:=2) scBes.nd rfl (Or.inl rfl)) pgs_nil))))
   (pss_cons (ps_comp (i:=3) scBes.nd rfl (Or.inl rfl) rfl csBes (pi_range1 rfl T.range (@pa_nam _ _ _ _ _ _ (pv 1) pa_nil)) (fun C s H fp=>pg_name (i:=0) ndBes rfl (Or.inl rfl)) (fun C s H fp=>pf_nil) (fun C s H fp=>@pe_lst _ _ _ _ pa_nil))
   (pss_cons (ps_for PassesOwn.never rfl (pi_tup (pv 2)) (pg_tup (n:=3) rfl (pgs_cons (pg_name (i:=4) scBes.nd rfl (Or.inl rfl)) (pgs_cons (pg_name (i:=5) scBes.nd rfl (Or.inl rfl)) (pgs_cons (pg_name (i:=6) scBes.nd rfl (Or.inl rfl)) pgs_nil))))
    (pss_cons (ps_expr (pe_bm PySem.F.plainAttrs_list PySem.F.slot_list_append PySem.F.type_list_append mt_append (pe_ix ix_list (pv 3) (pv 4) (fun _ _=>rfl)) (@pa_tup _ _ _ _ _ _ _ (@pe_tup _ _ _ _ _ (@pa_nam _ _ _ _ _ _ (pv 5) (@pa_nam _ _ _ _ _ _ (pv 6) pa_nil))) pa_nil)))
    (pss_one (ps_expr (pe_bm PySem.F.plainAttrs_list PySem.F.slot_list_append PySem.F.type_list_append mt_append (pe_ix ix_list (pv 3) (pv 5) (fun _ _=>rfl)) (@pa_tup _ _ _ _ _ _ _ (@pe_tup _ _ _ _ _ (@pa_nam _ _ _ _ _ _ (pv 4) (@pa_nam _ _ _ _ _ _ (pv 6) pa_nil))) pa_nil))))))
   (pss_one (ps_ret (pv 3))))),?_⟩
  refine⟨_,rfl,t,_,rfl,SqT.of h1,rfl,_,_,rfl,_,_,rfl,rfl,?_⟩
  refine⟨_,rfl,_,rfl,by lia,by lia,?_⟩
  rw[show((n:Int)).toNat=n by lia]
  refine comp_range (lo:=0) (n:=n) (fun i ys G=>Same H G/\∃ as:List Addr,ys=as.map V.ref/\as.length=i/\as.Nodup/\∀ a∈as,H a=none/\G a=some (.lst [])) (by rw[sizeLine_eq];lia) ⟨Same.refl _,[],rfl,rfl,List.nodup_nil,fun _ h=>nomatch h⟩ ?_ ?_
  ·rintro i ys G hi ⟨sm,as,rfl,al,nd,ha⟩
   refine⟨trivial,tTru_if ⟨(by show 0<=sizeLine;decide),fun l hl=>⟨sm.trans (Same.new hl),as++[l],by rw[List.map_append];rfl,by rw[List.length_append,al];rfl,?_,fun a m=>?_⟩⟩⟩
   ·rw[List.nodup_append]
    refine⟨nd,by simp,fun x hx y hy z=>?_⟩
    rw[List.mem_singleton.mp hy]at z
    have:=(ha x hx).2
    rw[z,hl]at this
    cases this
   ·rcases List.mem_append.mp m with m | m
    ·exact⟨(ha a m).1,(Same.new hl) _ _ (ha a m).2⟩
    ·rw[List.mem_singleton.mp m]
     exact⟨sm.free hl,upd_same⟩
  ·rintro ys G yl ⟨sm,as,rfl,al,nd,ha⟩ D hD
   have sD:=Same.new (o:=.lst (as.map V.ref)) hD
   have hD0:H D=none:=sm.free hD
   have smD:=sm.trans sD
   refine⟨_,rfl,ts,rfl,⟨_,SqT.of (smD _ _ h2)⟩,?_⟩
   refine for_tup (K:=K) (a:=ts) (xs:=bs.map V.ref) (fun i σ G2=>∃ v4 v5 v6,σ=[some (.ref t),some (.int n),some (.ref ts),some (.ref D),v4,v5,v6]/\Same H G2/\G2 D=some (.lst (as.map V.ref))/\BesAt G2 as (ties.take i)) ⟨none,none,none,rfl,smD,upd_same,fun i h=>⟨[],sD _ _ (ha _ (List.getElem_mem h)).2,.nil⟩⟩ (fun i σ G2 _ z=>by obtain⟨v4,v5,v6,_,s2,_⟩:=z;exact SqT.of (s2 _ _ h2)) ?_ ?_
   ·rintro i x σ G2 hx ⟨v4,v5,v6,rfl,s2,gD,B⟩
    obtain⟨il,e⟩:=List.getElem?_eq_some_iff.mp hx
    rw[List.length_map]at il
    rw[List.getElem_map]at e
    subst e
    have it:i<ties.length:=by lia
    have hx:=s2 _ _ (Paired.at h3 i il it)
    obtain⟨o1,o2,o3,o4⟩:=ok _ (List.getElem_mem it)
    generalize ex:ties[i]=x at *
    obtain⟨a,b,c⟩:=x
    have o1:0<=a:=o1
    have o2:a<b:=o2
    have o3:b <(n:Int):=o3
    obtain⟨a,rfl⟩:∃ a':Nat,a=(a':Int):=⟨a.toNat,by lia⟩
    obtain⟨b,rfl⟩:∃ b':Nat,b=(b':Int):=⟨b.toNat,by lia⟩
    have aL:a<as.length:=by lia
    have bL:b<as.length:=by lia
    refine⟨bs[i],_,rfl,SqT.of hx,rfl,_,_,rfl,_,_,rfl,_,_,rfl,rfl,?_⟩
    obtain⟨ca,ea,pa⟩:=B a aL
    refine⟨_,rfl,_,rfl,D,_,_,_,rfl,rfl,SqL.of gD,atI_nat (v:=V.ref as[a]) (by rw[List.getElem?_map,List.getElem?_eq_getElem aL];rfl),.inl ⟨rfl,_,SqL.of ea⟩,_,rfl,_,rfl,(by show 2<=sizeLine;decide),fun tp htp=>?_⟩
    have sT:=Same.new (o:=.tup [.int (b:Int),.int c]) htp
    have lca:(ca.map V.ref).length<sizeLine:=by
     have l1:=pa.length
     have l2:=beside_len (ties.take i) a
     rw[List.length_take]at l2
     rw[List.length_map,sizeLine_eq]
     lia
    refine⟨as[a],_,_,rfl,rfl,sT _ _ ea,lca,?_⟩
    have B1:=BesAt.put (g:=fun i'=>besideOf (ties.take i) i') (y:=((b:Int),c)) nd aL (B.same sT) (sT _ _ ea) upd_same
    have na:∀ (u:Addr) (o:HO),H u=some o->u≠as[a]:=fun u o e z=>by rw[z,(ha _ (List.getElem_mem aL)).1]at e;cases e
    have nb':∀ (u:Addr) (o:HO),H u=some o->u≠as[b]:=fun u o e z=>by rw[z,(ha _ (List.getElem_mem bL)).1]at e;cases e
    have nD:∀ (j:Nat) (h:j<as.length),D≠as[j]:=fun j h z=>by
     have:=(ha _ (List.getElem_mem h)).2
     rw[<- z,hD]at this
     cases this
    have gD1:(upd (upd G2 tp (.tup [.int (b:Int),.int c])) as[a] (.lst (ca.map V.ref++[.ref tp]))) D=some (.lst (as.map V.ref)):=by rw[upd_ne (nD a aL)];exact sT _ _ gD
    have s3:Same H (upd (upd G2 tp (.tup [.int (b:Int),.int c])) as[a] (.lst (ca.map V.ref++[.ref tp]))):=fun u o e=>by rw[upd_ne (na u o e)];exact sT _ _ (s2 _ _ e)
    generalize (upd (upd G2 tp (.tup [.int (b:Int),.int c])) as[a] (.lst (ca.map V.ref++[.ref tp])))=G3 at B1 gD1 s3
    obtain⟨cb,eb,pb⟩:=B1 b bL
    refine⟨_,rfl,_,rfl,D,_,_,_,rfl,rfl,SqL.of gD1,atI_nat (v:=V.ref as[b]) (by rw[List.getElem?_map,List.getElem?_eq_getElem bL];rfl),.inl ⟨rfl,_,SqL.of eb⟩,_,rfl,_,rfl,(by show 2<=sizeLine;decide),fun tp2 htp2=>?_⟩
    have sT2:=Same.new (o:=.tup [.int (a:Int),.int c]) htp2
    have lcb:(cb.map V.ref).length<sizeLine:=by
     have l1:=pb.length
     rw[List.length_append]at l1
     have l2:=beside_len (ties.take i) b
     rw[List.length_take]at l2
     have l3:(if(b:Int)=(a:Int)then [((b:Int),c)]else []).length<=1:=by split <;> simp
     rw[List.length_map,sizeLine_eq]
     lia
    refine⟨as[b],_,_,rfl,rfl,sT2 _ _ eb,lcb,?_⟩
    have B1':∀ (i':Nat) (h:i'<as.length),∃ cs:List Addr,(upd G3 tp2 (.tup [.int (a:Int),.int c])) as[i']=some (.lst (cs.map V.ref))/\Paired (fun c' (x:Int×Int)=>(upd G3 tp2 (.tup [.int (a:Int),.int c])) c'=some (.tup [.int x.1,.int x.2])) cs ((fun i'':Int=>besideOf (ties.take i) i''++if i''=(a:Int)then [((b:Int),c)]else []) i'):=fun i' h=>by
     obtain⟨cs,e,p⟩:=B1 i' h
     exact⟨cs,sT2 _ _ e,Paired.mapP p fun c x z=>sT2 _ _ z⟩
    have B2:=BesAt.put (g:=fun i'':Int=>besideOf (ties.take i) i''++if i''=(a:Int)then [((b:Int),c)]else []) (y:=((a:Int),c)) nd bL B1' (sT2 _ _ eb) upd_same
    refine⟨_,_,_,rfl,fun u o e=>by rw[upd_ne (nb' u o e)];exact sT2 _ _ (s3 _ _ e),by rw[upd_ne (nD b bL)];exact sT2 _ _ gD1,fun i' h'=>?_⟩
    obtain⟨cs,e,p⟩:=B2 i' h'
    refine⟨cs,e,?_⟩
    have eq:besideOf (ties.take (i+1)) i'=(besideOf (ties.take i) i'++if(i':Int)=(a:Int)then [((b:Int),c)]else [])++if(i':Int)=(b:Int)then [((a:Int),c)]else []:=by
     rw[List.take_succ_eq_append_getElem it,besideOf_snoc,ex,List.append_assoc]
     congr 1
     show(if(a:Int)=(i':Int)then _ else if(b:Int)=(i':Int)then _ else _)=_
     by_cases e1:(i':Int)=(a:Int)
     ·rw[if_pos e1,if_pos e1.symm,if_neg (by lia)]
      rfl
     ·rw[if_neg e1,if_neg (fun z=>e1 z.symm)]
      by_cases e2:(i':Int)=(b:Int)
      ·rw[if_pos e2,if_pos e2.symm]
       rfl
      ·rw[if_neg e2,if_neg (fun z=>e2 z.symm)]
       rfl
    rw[eq]
    exact p
   ·rintro σ G2 ⟨v4,v5,v6,rfl,s2,gD,B⟩
    rw[List.length_map,h3l,List.take_length]at B
    exact⟨_,rfl,q D as G2 gD al B s2⟩
end
open PySem L2 PyProof.Rows
theorem insP{ns:List Int}{k:Nat}{x:Int}:(ns.take k++x :: ns.drop k).Perm (ns++[x]):=by
 have h1:(ns.take k++x :: ns.drop k).Perm (x :: (ns.take k++ns.drop k)):=List.perm_middle
 rw[List.take_append_drop]at h1
 exact h1.trans (List.perm_append_singleton x ns).symm
theorem upto_succ(n:Nat):upto (n+1)=upto n++[(n:Int)]:=by
 unfold upto
 rw[List.range_succ,List.map_append]
 rfl
theorem mem_upto{n:Nat}{x:Int}:x∈upto n↔0<=x/\x<n:=by
 unfold upto
 rw[List.mem_map]
 refine⟨fun⟨i,hi,e⟩=>?_,fun⟨h0,h1⟩=>⟨x.toNat,List.mem_range.mpr (by omega),by lia⟩⟩
 have:=List.mem_range.mp hi
 lia
noncomputable def Hg(ns:List Int)(ties:List Tie):Prop:=∀ (i:Nat) (x:Tie),ties[i]?=some x->Ex3 fun(j:Nat) (a b:Int)=>j<=i/\ns[j]?=some a/\ns[i+1]?=some b/\((x.1=a/\x.2.1=b)\/(x.1=b/\x.2.1=a))
theorem Hg.snoc{ns:List Int}{ties:List Tie}{i j:Nat}{a b c:Int}(h:Hg ns ties)(hl:ties.length=i)(hj:j<=i)(ga:ns[j]?=some a)(gb:ns[i+1]?=some b)(ne:a≠b):Hg ns (ties++[((if b<a then b else a),(if b > a then b else a),c)]):=by
 intro k x e
 by_cases hk:k<ties.length
 ·rw[List.getElem?_append_left hk]at e
  exact h k x e
 ·rw[List.getElem?_append_right (by lia)]at e
  have hk0:k-ties.length=0:=by
   rcases Nat.eq_zero_or_pos (k-ties.length)with z | z
   ·exact z
   ·rw[List.getElem?_eq_none (by rw[List.length_singleton];lia)]at e
    cases e
  rw[hk0]at e
  cases e
  have ki:k=i:=by lia
  refine⟨j,a,b,by lia,ga,by rw[ki];exact gb,?_⟩
  show((if b<a then b else a)=a/\(if b > a then b else a)=b)\/((if b<a then b else a)=b/\(if b > a then b else a)=a)
  by_cases z:b<a
  ·rw[if_pos z,if_neg (by lia)]
   exact .inr ⟨rfl,rfl⟩
  ·rw[if_neg z,if_pos (by lia)]
   exact .inl ⟨rfl,rfl⟩
noncomputable def TreeAs(n:Nat)(ties:List Tie):Prop:=∃ (ns:List Int) (ts:List Tie),ns.Perm (upto n)/\Hg ns ts/\ts.length+1=n/\ties.Perm ts
theorem nd_at{ns:List Int}(nd:ns.Nodup){i j:Nat}{x:Int}(h1:ns[i]?=some x)(h2:ns[j]?=some x):i=j:=by
 obtain⟨a,e1⟩:=List.getElem?_eq_some_iff.mp h1
 obtain⟨b,e2⟩:=List.getElem?_eq_some_iff.mp h2
 exact(List.getElem_inj nd).mp (e1.trans e2.symm)
inductive spTreeI(vs:List V)(H:Hp)(Q:VK):Prop where
 |mk (p:Addr) (n N:Nat) (h1:vs=[.ref p,.int n]) (h2:BoxAt H p N) (h3:N+1000<2 ^ 40) (h4:1<=n) (h5:n<=30) (h6:∀ (t:Addr) (ties:List Tie) (H':Hp),WebAt H' t n ties->(∀ x∈ties,TieOk n x)->ties.length+1=n->ties.Pairwise tieLt->TreeAs n ties->BoxAt H' p (N+200)->Kept p H H'->Q (.ref t) H')
noncomputable def spTree:Sp:=fun vs H Q _=>spTreeI vs H Q
noncomputable def tieK(x:Tie):List Int:=[x.1,x.2.1,x.2.2]
noncomputable def untie:List Int->Tie
 |[a,b,c]=>(a,b,c)
 | _=>(0,0,0)
theorem untie_K(x:Tie):untie (tieK x)=x:=rfl
theorem paired_map{α β γ:Type}{F:α->γ->Prop}{f:β->γ}:∀ {l:List α}{m:List β},Paired F l (m.map f)->Paired (fun a x=>F a (f x)) l m
 |[],[],_=>.nil
 |a :: l,x :: m,.cons h t=>.cons h (paired_map t)
 |[],_ :: _,h=>nomatch h
 | _ :: _,[],h=>nomatch h
theorem tups_perm{H:Hp}{bs:List Addr}{ns:List (List Int)}{ties:List Tie}(tb:TupsAt H bs ns)(pm:ns.Perm (ties.map tieK)):∃ ts:List Tie,Paired (fun a x=>H a=some (.tup (tieV x))) bs ts/\ts.Perm ties/\ns=ts.map tieK:=by
 have e:ns=(ns.map untie).map tieK:=by
  have:∀ k∈ns,k=tieK (untie k):=fun k hk=>by
   obtain⟨x,_,e⟩:=List.mem_map.mp (pm.mem_iff.mp hk)
   rw[<- e,untie_K]
  rw[List.map_map]
  exact(List.map_id ns).symm.trans (List.map_congr_left fun k hk=>this k hk)
 refine⟨ns.map untie,?_,?_,e⟩
 ·rw[e]at tb
  exact paired_map (f:=tieK) (F:=fun a k=>H a=some (.tup (List.map V.int k))) tb
 ·have:=pm.map untie
  rw[List.map_map]at this
  have ei:(untie ∘ tieK)=id:=funext untie_K
  rw[ei,List.map_id]at this
  exact this
theorem strict_of{ts:List Tie}(h:(ts.map tieK).Pairwise fun x y=>Srt.lexlt y x=false)(nd:(ts.map fun x=>(x.1,x.2.1)).Nodup):ts.Pairwise tieLt:=by
 rw[List.pairwise_map]at h
 have nd':=List.pairwise_map.mp nd
 refine(h.and nd').imp fun {x y} z=>?_
 obtain⟨z1,z2⟩:=z
 obtain⟨a,b,c⟩:=x
 obtain⟨d,e,f⟩:=y
 have z3:¬(a=d/\b=e):=fun u=>z2 (by rw[u.1,u.2])
 unfold tieLt
 simp only[tieK,Srt.lexlt]at z1 ⊢
 by_cases u:a=d
 ·have v:¬ b=e:=fun v=>z3 ⟨u,v⟩
  simp[u,v,Ne.symm v]at z1 ⊢
  lia
 ·simp[u,Ne.symm u]at z1 ⊢
  lia
theorem hg_nodup{ns:List Int}{ts:List Tie}(nd:ns.Nodup)(h:Hg ns ts):(ts.map fun x=>(x.1,x.2.1)).Nodup:=by
 refine List.pairwise_map.mpr (List.pairwise_iff_getElem.mpr fun i k hi hk ik z=>?_)
 obtain⟨j,a,b,j1,ga,gb,e1⟩:=h i _ (List.getElem?_eq_getElem hi)
 obtain⟨j',a',b',j1',ga',gb',e2⟩:=h k _ (List.getElem?_eq_getElem hk)
 have z1:ts[i].1=ts[k].1:=(Prod.mk.inj z).1
 have z2:ts[i].2.1=ts[k].2.1:=(Prod.mk.inj z).2
 have n1:b'≠a:=fun e=>by
  rw[e]at gb'
  have:=nd_at nd gb' ga
  lia
 have n2:b'≠b:=fun e=>by
  rw[e]at gb'
  have:=nd_at nd gb' gb
  lia
 rcases e1 with e1 | e1 <;> rcases e2 with e2 | e2
 ·exact n2 (by rw[<- e2.2,<- z2,e1.2])
 ·exact n1 (by rw[<- e2.1,<- z1,e1.1])
 ·exact n1 (by rw[<- e2.2,<- z2,e1.2])
 ·exact n2 (by rw[<- e2.1,<- z1,e1.1])
theorem ties_tups{H:Hp}:∀ {as:List Addr}{ties:List Tie},Paired (fun a x=>H a=some (.tup (tieV x))) as ties->TupsAt H as (ties.map tieK)
 | _,_,.nil=>.nil
 | _,_,.cons h t=>.cons h (ties_tups t)
section
variable{P:Program}{w:World}{K:PySem.W.Frag}{mg:Str->Option Value}{base:Heap}
noncomputable abbrev nTre:List Str:=["_law_box_here","_law_many_here","_law_heavy","_law_way","_law_names","_law_place","_law_ties","_law_one","_law_other"]
theorem scTre:FnScope nTre ["_law_box_here","_law_many_here"] (defScope sTree):=⟨rfl,rfl,rfl,by decide +kernel,rfl,by decide +kernel,by decide +kernel⟩
theorem ok_tree{f g g2:Addr}{fd gd d2:FuncData}(F:Fun K "_law_tree" "_law_tree" sTree f fd)(T:Txt mg)(G:TakeF P w K mg base g gd)(G2:WeightF P w K mg base g2 d2):FnOk P w K mg base CX0 3 f fd ["_law_box_here","_law_many_here"] spTree:=by
 refine F.ok scTre (fun vs H Q E h=>?_) (fun cdv A outer s H vs Q E hr h=>?_)
 ·obtain⟨p,n,N,rfl,_⟩:=h
  rfl
 ·obtain⟨p,n,N,rfl,B,hN,n1,n30,q⟩:=h
  have hr1:Room 1 _:=hr.mono (by decide)
  refine⟨_,pss_cons (ps_par rfl scTre.nd (i:=2) (j:=3) rfl rfl (by decide) rfl rfl (@pa_call _ _ _ _ _ _ _ _ (pe_call G.ok hr1 rfl G.mg G.kp G.bd .nil pass0 (@pa_nam _ _ _ _ _ _ (pv 0) (@pa_cst _ _ _ _ _ _ _ pe_int pa_nil))) (@pa_call _ _ _ _ _ _ _ _ (pe_call G.ok hr1 rfl G.mg G.kp G.bd .nil pass0 (@pa_nam _ _ _ _ _ _ (pv 0) (@pa_cst _ _ _ _ _ _ _ pe_int pa_nil))) pa_nil)) rfl)
   (pss_cons (ps_set (i:=4) scTre.nd rfl (Or.inl rfl) (@pe_lst _ _ _ _ (@pa_cst _ _ _ _ _ _ _ pe_int pa_nil)))
   (pss_cons (ps_for PassesOwn.never rfl (pi_range2 rfl T.range (@pa_cst _ _ _ _ _ _ _ pe_int (@pa_nam _ _ _ _ _ _ (pv 1) pa_nil))) (pg_name (i:=5) scTre.nd rfl (Or.inl rfl))
    (pss_one (ps_expr (pe_bm PySem.F.plainAttrs_list PySem.F.slot_list_insert PySem.F.type_list_insert mt_insert (pv 4) (@pa_call _ _ _ _ _ _ _ _ (pe_call G.ok hr1 rfl G.mg G.kp G.bd .nil pass0 (@pa_nam _ _ _ _ _ _ (pv 0) (@pa_bin _ _ _ _ _ _ _ _ (pe_op op_add (pv 5) pe_int) pa_nil))) (@pa_nam _ _ _ _ _ _ (pv 5) pa_nil))))))
   (pss_cons (ps_set (i:=6) scTre.nd rfl (Or.inl rfl) (@pe_lst _ _ _ _ pa_nil))
   (pss_cons (ps_for PassesOwn.never rfl (pi_range2 rfl T.range (@pa_cst _ _ _ _ _ _ _ pe_int (@pa_nam _ _ _ _ _ _ (pv 1) pa_nil))) (pg_name (i:=5) scTre.nd rfl (Or.inl rfl))
    (pss_cons (ps_par rfl scTre.nd (i:=7) (j:=8) rfl rfl (by decide) rfl rfl (@pa_sub _ _ _ _ _ _ _ (@pe_ix _ _ _ _ _ _ _ ix_list (pv 4) (@pe_ix _ _ _ _ _ _ _ ix_list (@pe_lst _ _ _ _ (@pa_bin _ _ _ _ _ _ _ _ (pe_op op_sub (pv 5) pe_int) (@pa_cst _ _ _ _ _ _ _ pe_int (@pa_call _ _ _ _ _ _ _ _ (pe_call G.ok hr1 rfl G.mg G.kp G.bd .nil pass0 (@pa_nam _ _ _ _ _ _ (pv 0) (@pa_nam _ _ _ _ _ _ (pv 5) pa_nil))) pa_nil)))) (pe_callB (call_min2 rfl) (by rfl) T.min boot_min (@pa_nam _ _ _ _ _ _ (pv 3) (@pa_cst _ _ _ _ _ _ _ pe_int pa_nil))) (fun _ _=>rfl)) (fun _ _=>rfl)) (@pa_sub _ _ _ _ _ _ _ (pe_ix ix_list (pv 4) (pv 5) (fun _ _=>rfl)) pa_nil)) rfl)
    (pss_one (ps_expr (pe_bm PySem.F.plainAttrs_list PySem.F.slot_list_append PySem.F.type_list_append mt_append (pv 6) (@pa_tup _ _ _ _ _ _ _ (@pe_tup _ _ _ _ _ (@pa_call _ _ _ _ _ _ _ _ (pe_callB (call_min2 rfl) (by rfl) T.min boot_min (@pa_nam _ _ _ _ _ _ (pv 7) (@pa_nam _ _ _ _ _ _ (pv 8) pa_nil))) (@pa_call _ _ _ _ _ _ _ _ (pe_callB (call_max2 rfl) (by rfl) T.max boot_max (@pa_nam _ _ _ _ _ _ (pv 7) (@pa_nam _ _ _ _ _ _ (pv 8) pa_nil))) (@pa_call _ _ _ _ _ _ _ _ (pe_call G2.ok hr rfl G2.mg G2.kp G2.bd .nil pass0 (@pa_nam _ _ _ _ _ _ (pv 0) (@pa_nam _ _ _ _ _ _ (pv 2) pa_nil))) pa_nil)))) pa_nil))))))
   (pss_one (ps_ret (@pe_tup _ _ _ _ _ (@pa_nam _ _ _ _ _ _ (pv 1) (@pa_call _ _ _ _ _ _ _ _ (pe_callTy call_tuple_of (by rfl) T.tuple boot_tuple (@pa_call _ _ _ _ _ _ _ _ (pe_callB call_sortedT (by rfl) T.sorted boot_sorted (@pa_nam _ _ _ _ _ _ (pv 6) pa_nil)) pa_nil)) pa_nil))))))))),?_⟩
  refine⟨_,rfl,p,_,N,rfl,B,by lia,by decide,by decide,fun z H1 z0 z1 B1 k1=>?_⟩
  refine⟨_,rfl,p,_,_,rfl,B1,by lia,by decide,by decide,fun y H2 y0 y1 B2 k2=>⟨_,_,rfl,?_⟩⟩
  obtain⟨hh,rfl⟩:∃ hh:Nat,z=(hh:Int):=⟨z.toNat,by lia⟩
  have h4:hh<4:=by lia
  have k02:=k1.trans k2
  refine⟨(by show 1<=sizeLine;decide),fun na hna=>?_⟩
  have nap:na≠p:=B2.ne hna
  have na0:H na=none:=k02.free B2 hna
  refine⟨_,rfl,1,(n:Int),rfl,⟨by decide,by decide,by lia,by lia⟩,?_⟩
  refine for_range (lo:=1) (n:=((n:Int)-1).toNat) (fun i σ G=>∃ (ns:List Int) (v5:Option V),σ=[some (.ref p),some (.int n),some (.int hh),some (.int y),some (.ref na),v5,none,none,none]/\BoxAt G p (N+2+i)/\Kept p H G/\G na=some (.lst (ns.map V.int))/\ns.Perm (upto (i+1))) ⟨[0],none,rfl,(B2.new hna).mono (by lia),k02.trans (Kept.new hna),upd_same,List.Perm.refl _⟩ ?_ ?_
  ·rintro i σ G hi ⟨ns,v5,rfl,BG,kG,gn,pm⟩
   have nl:ns.length=i+1:=by rw[pm.length_eq,upto_length]
   refine⟨_,rfl,.inl ⟨rfl,_,SqL.of gn⟩,_,rfl,_,rfl,_,_,rfl,rfl,p,_,_,rfl,BG,by lia,by lia,by lia,fun k G2 k0 k1' B3 k3=>?_⟩
   have gn3:=k3 _ _ nap gn
   refine⟨_,rfl,na,_,k,_,rfl,rfl,gn3,k0,by rw[List.length_map];lia,by rw[List.length_map,sizeLine_eq];omega,?_⟩
   refine⟨ns.take k.toNat++(1+(i:Int)) :: ns.drop k.toNat,_,rfl,(B3.put nap).mono (by lia),(kG.trans k3).put na0,?_,?_⟩
   ·rw[upd_same,List.map_append,List.map_cons,List.map_take,List.map_drop]
   ·refine insP.trans ?_
    rw[upto_succ (i+1)]
    have e:(1+(i:Int))=((i+1:Nat):Int):=by lia
    rw[e]
    exact pm.append_right _
  ·rintro σ G ⟨ns,v5,rfl,BG,kG,gn,pm⟩
   have en:((n:Int)-1).toNat+1=n:=by lia
   rw[en]at pm
   have nl:ns.length=n:=by rw[pm.length_eq,upto_length]
   have nnd:ns.Nodup:=pm.nodup_iff.mpr (upto_nodup n)
   have nin:∀ x∈ns,0<=x/\x<n:=fun x hx=>mem_upto.mp (pm.mem_iff.mp hx)
   refine⟨(by show 0<=sizeLine;decide),fun ti hti=>?_⟩
   have tip:ti≠p:=BG.ne hti
   have ti0:H ti=none:=kG.free BG hti
   have tina:ti≠na:=fun e=>by rw[e,gn]at hti;cases hti
   refine⟨_,rfl,1,(n:Int),rfl,⟨by decide,by decide,by lia,by lia⟩,?_⟩
   refine for_range (lo:=1) (n:=((n:Int)-1).toNat) (fun i σ G=>Ex5 fun(as:List Addr) (ties:List Tie) (v5 v7 v8:Option V)=>σ=[some (.ref p),some (.int n),some (.int hh),some (.int y),some (.ref na),v5,some (.ref ti),v7,v8]/\BoxAt G p (N+40+3 * i)/\Kept p H G/\G na=some (.lst (ns.map V.int))/\G ti=some (.lst (as.map V.ref))/\Paired (fun a x=>G a=some (.tup (tieV x))) as ties/\(∀ x∈ties,TieOk n x)/\ties.length=i/\Hg ns ties)
    ⟨[],[],_,none,none,rfl,(BG.new hti).mono (by lia),kG.trans (Kept.new hti),(Same.new hti) _ _ gn,upd_same,.nil,fun _ h=>(nomatch h),rfl,fun _ _ e=>by simp at e⟩ ?_ ?_
   ·clear BG kG gn hti v5
    rintro i σ G hi ⟨as,ties,v5,v7,v8,rfl,BG,kG,gn,gt,pt,ok,tl,hg⟩
    have al:as.length=i:=by rw[pt.length,tl]
    refine⟨_,rfl,_,rfl,_,_,rfl,rfl,_,rfl,_,rfl,p,_,_,rfl,BG,by lia,by lia,by lia,fun k G2 k0 k1' B3 k3=>⟨(by show 3<=sizeLine;decide),fun l hl=>?_⟩⟩
    have lp:l≠p:=B3.ne hl
    have sl:=Same.new (o:=.lst [V.int (1+(i:Int)-1),V.int 0,V.int k]) hl
    obtain⟨jx,wj,ej,hj,wjn⟩:∃ (jx:Int) (wj:Nat),(if(2:Int)<y then 2 else y)=(wj:Int)/\[V.int (1+(i:Int)-1),V.int 0,V.int k][wj]?=some (V.int jx)/\0<=jx/\jx<1+(i:Int):=by
     by_cases e:y=0
     ·exact⟨1+(i:Int)-1,0,by rw[if_neg (by lia)];omega,rfl,by lia,by lia⟩
     ·by_cases e1:y=1
      ·exact⟨0,1,by rw[if_neg (by lia)];omega,rfl,by lia,by lia⟩
      ·exact⟨k,2,by split <;> lia,rfl,k0,by omega⟩
    obtain⟨jx,rfl⟩:∃ j':Nat,jx=(j':Int):=⟨jx.toNat,by lia⟩
    have gn3:=sl _ _ (k3 _ _ nap gn)
    have jl:jx<ns.length:=by lia
    have il:i+1<ns.length:=by lia
    have gj:atI (ns.map V.int) (jx:Int)=some (V.int ns[jx]):=atI_nat (by rw[List.getElem?_map,List.getElem?_eq_getElem jl];rfl)
    have gi:atI (ns.map V.int) (1+(i:Int))=some (V.int ns[i+1]):=by
     have e:(1+(i:Int))=((i+1:Nat):Int):=by lia
     rw[e]
     exact atI_nat (by rw[List.getElem?_map,List.getElem?_eq_getElem il];rfl)
    have ne:ns[jx]≠ns[i+1]:=fun z=>by
     have:=(List.getElem_inj nnd).mp z
     lia
    obtain⟨a0,a1⟩:=nin _ (List.getElem_mem jl)
    obtain⟨b0,b1⟩:=nin _ (List.getElem_mem il)
    have gj':ns[jx]?=some ns[jx]:=List.getElem?_eq_getElem jl
    have gi':ns[i+1]?=some ns[i+1]:=List.getElem?_eq_getElem il
    generalize ns[jx]=one at gj ne a0 a1 gj'
    generalize ns[i+1]=oth at gi ne b0 b1 gi'
    refine⟨_,rfl,_,_,rfl,l,_,_,_,rfl,rfl,SqL.of upd_same,by rw[ej];exact atI_nat hj,na,_,_,_,rfl,rfl,SqL.of gn3,gj,_,rfl,_,rfl,na,_,_,_,rfl,rfl,SqL.of gn3,gi,_,_,rfl,?_⟩
    have gt3:=sl _ _ (k3 _ _ tip gt)
    have B4:=B3.same sl
    have k04:Kept p H (upd G2 l (.lst [V.int (1+(i:Int)-1),V.int 0,V.int k])):=kG.trans (k3.trans (Kept.new hl))
    have pt3:Paired (fun a x=>(upd G2 l (.lst [V.int (1+(i:Int)-1),V.int 0,V.int k])) a=some (.tup (tieV x))) as ties:=by
     obtain⟨x1,x2,x3,eb,_⟩:=BG
     exact Paired.mapP pt fun a x e=>sl _ _ (k3 _ _ (ne_of e eb (by intro z;cases z)) e)
    generalize (upd G2 l (.lst [V.int (1+(i:Int)-1),V.int 0,V.int k]))=G3 at gn3 gt3 B4 k04 pt3
    refine⟨_,rfl,.inl ⟨rfl,_,SqL.of gt3⟩,_,rfl,_,rfl,_,_,rfl,_,rfl,_,rfl,_,_,rfl,_,rfl,_,rfl,p,hh,_,rfl,h4,B4,by lia,fun c G4 c1 B5 k5=>⟨(by show 3<=sizeLine;decide),fun tp htp=>?_⟩⟩
    have gt5:=(Same.new (o:=.tup [.int (if oth<one then oth else one),.int (if oth > one then oth else one),.int c]) htp) _ _ (k5 _ _ tip gt3)
    refine⟨ti,_,_,rfl,rfl,gt5,by rw[List.length_map,sizeLine_eq];lia,?_⟩
    have st:∀ (a:Addr) (xs:List V),(upd G4 tp (.tup [.int (if oth<one then oth else one),.int (if oth > one then oth else one),.int c])) a=some (.tup xs)->(upd (upd G4 tp (.tup [.int (if oth<one then oth else one),.int (if oth > one then oth else one),.int c])) ti (.lst (as.map V.ref++[V.ref tp]))) a=some (.tup xs):=fun a xs e=>by
     rw[upd_ne (ne_of e gt5 (by intro z;cases z))]
     exact e
    have pt5:Paired (fun a x=>G4 a=some (.tup (tieV x))) as ties:=by
     obtain⟨x1,x2,x3,eb,_⟩:=B4
     exact Paired.mapP pt3 fun a x e=>k5 _ _ (ne_of e eb (by intro z;cases z)) e
    refine⟨as++[tp],ties++[((if oth<one then oth else one),(if oth > one then oth else one),c)],_,_,_,rfl,((B5.new htp).put tip).mono (by lia),(k04.trans (k5.trans (Kept.new htp))).put ti0,?_,by rw[upd_same,List.map_append];rfl,Paired.snoc (Paired.mapP pt5 fun a x e=>st _ _ ((Same.new htp) _ _ e)) (st _ _ upd_same),fun x hx=>?_,by rw[List.length_append,tl];rfl,Hg.snoc hg tl (by lia) gj' gi' ne⟩
    ·rw[upd_ne (Ne.symm tina)]
     exact(Same.new htp) _ _ (k5 _ _ nap gn3)
    ·rcases List.mem_append.mp hx with hx | hx
     ·exact ok x hx
     ·rw[List.mem_singleton.mp hx]
      refine⟨?_,?_,?_,c1⟩
      ·show(0:Int)<=if oth<one then oth else one
       split <;> omega
      ·show(if oth<one then oth else one) <(if oth > one then oth else one)
       split <;> split <;> omega
      ·show(if oth > one then oth else one) <(n:Int)
       split <;> omega
   ·rintro σ G ⟨as,ties,v5,v7,v8,rfl,BG,kG,gn,gt,pt,ok,tl,hg⟩
    have al:=pt.length
    refine⟨_,rfl,_,rfl,ti,as,ties.map tieK,rfl,SqL.of gt,ties_tups pt,fun k hk=>?_,by lia,fun l' bs ns' hl' pm' so' tb=>?_⟩
    ·obtain⟨x,_,rfl⟩:=List.mem_map.mp hk
     exact fun z=>nomatch z
    have sl:=Same.new (o:=.lst (bs.map V.ref)) hl'
    refine⟨l',_,rfl,.inl ⟨SqL.of upd_same,fun ts hts=>⟨(by show 2<=sizeLine;decide),fun t ht=>?_⟩⟩⟩
    have s2:=Same.new (o:=.tup (bs.map V.ref)) hts
    have s3:=Same.new (o:=.tup [.int (n:Int),.ref ts]) ht
    obtain⟨tl2,p2,pm2,e2⟩:=tups_perm tb pm'
    rw[e2]at so'
    have ok2:∀ x∈tl2,TieOk n x:=fun x hx=>ok x (pm2.mem_iff.mp hx)
    have l2:=pm2.length_eq
    have pw2:=strict_of so' ((pm2.map fun x=>(x.1,x.2.1)).nodup_iff.mpr (hg_nodup nnd hg))
    refine q t tl2 _ ⟨⟨ts,bs,upd_same,s3 _ _ upd_same,Paired.mapP p2 fun a x e=>s3 _ _ (s2 _ _ (sl _ _ e))⟩,by lia⟩ ok2 (by lia) pw2 ⟨ns,ties,pm,hg,by lia,pm2⟩ (((BG.same sl).same (s2.trans s3)).mono (by lia)) (kG.trans (fun b o _ e=>s3 _ _ (s2 _ _ (sl _ _ e))))
end
end K45
namespace Srt
open PySem PySem.W PyProof.Rows
open PySem.AutoSeq1 (wpAny_loadPart')
theorem rcLt{prog:Program}{w:World}{A:Around}{E:Value->Shared->Prop}{s:Shared}{a b:Int}{t u:Tok}{Q:Value->Shared->Prop}(h:Q (.bool (decide (a<b))) s):wpAny (model prog w) A (richCompare .Lt (.int a t) (.int b u)) Q E s:=lt_int h
open PySem PySem.W PyProof.Rows
noncomputable def LtAt(A:Around)(s:Shared)(u v:Value)(b:Bool):Prop:=∀ (prog:Program) (w:World) (E:Value->Shared->Prop) (Q:Value->Shared->Prop),Q (.bool b) s->wpAny (model prog w) A (richCompare .Lt u v) Q E s
noncomputable def lxL(e r:Nat->Bool)(tl:Bool):List Nat->Bool
 |[]=>tl
 |j :: js=>if e j=true then lxL e r tl js else r j
theorem tupG_meets(l b:Addr)(its its2:Array Value)(n n2:Nat)(dd dd2:Option Addr)(sl sl2:Array (Option Value))(e r:Nat->Bool) :
  Meets (Builtin.«tuple.__lt__» ⟨[.ref l,.ref b],[]⟩)
   (fun A R s=>s.heap.get? l=some { cls:=.type "tuple",dict:=dd,data:=.seq its n,slots:=sl }/\s.heap.get? b=some { cls:=.type "tuple",dict:=dd2,data:=.seq its2 n2,slots:=sl2 } /\
    (∀ j (h1:j<its.size) (h2:j<its2.size),(∀ i,i<j->e i=true)->SeqAt.EqAt A.in1 s its[j] its2[j] (e j))/\(∀ j (h1:j<its.size) (h2:j<its2.size),(∀ i,i<j->e i=true)->e j=false->LtAt A.in1 s its[j] its2[j] (r j)) /\
    R (.ok (.ret (.bool (lxL e r (decide (its.size<its2.size)) (List.range (min its.size its2.size)))))) s) :=
 .of_wp fun prog w A R s h=>by
  obtain⟨hp,g,d,tk,os⟩:=s
  obtain⟨hl,hb,he,hr,h⟩:=h
  have f2:=AutoSeq1.sub_tuple_tuple
  have hZ:(its.toList.zip its2.toList).length=min its.size its2.size:=by simp
  wp_walk using wpAny_loadPart' hl,wpAny_loadPart' hb,wpAny_forIn_list _ (fun rest q s'=>q.1=none/\s'=⟨hp,g,d,tk,os⟩/\∃ i,i<=min its.size its2.size/\(∀ m,m<i->e m=true)/\rest=(its.toList.zip its2.toList).drop i /\
   R (.ok (.ret (.bool (lxL e r (decide (its.size<its2.size)) ((List.range (min its.size its2.size)).drop i))))) ⟨hp,g,d,tk,os⟩) _
  case turn =>
   rintro⟨y,x⟩ rest q s' ⟨hq,rfl,i,hi,up,hz,hR⟩
   have lt:i <(its.toList.zip its2.toList).length:=by
    rcases Nat.lt_or_ge i (its.toList.zip its2.toList).length with z | z
    ·exact z
    ·rw[List.drop_of_length_le z]at hz;cases hz
   have a1:i<its.size:=by omega
   have a2:i<its2.size:=by omega
   rw[List.drop_eq_getElem_cons lt]at hz
   injection hz with hyx hrest
   have hy:y=its[i]:=by have:=congrArg Prod.fst hyx;simpa using this
   have hx:x=its2[i]:=by have:=congrArg Prod.snd hyx;simpa using this
   subst hy hx
   rw[List.drop_eq_getElem_cons (by rw[List.length_range];lia),List.getElem_range]at hR
   refine wpAny_bind (he i a1 a2 up prog w _ _ ?_)
   cases z:e i with
   |true =>
    have l1:lxL e r (decide (its.size<its2.size)) (i :: (List.range (min its.size its2.size)).drop (i+1))=lxL e r (decide (its.size<its2.size)) ((List.range (min its.size its2.size)).drop (i+1)):=by simp[lxL,z]
    rw[l1]at hR
    wp_walk
    exact⟨rfl,rfl,i+1,by lia,(fun m hm=>by rcases Nat.lt_succ_iff_lt_or_eq.mp hm with y | y;exact up m y;rw[y];exact z),hrest,hR⟩
   |false =>
    have l1:lxL e r (decide (its.size<its2.size)) (i :: (List.range (min its.size its2.size)).drop (i+1))=r i:=by simp[lxL,z]
    rw[l1]at hR
    have rl:=hr i a1 a2 up z prog w
    wp_walk using rl
    exact⟨_,rfl,hR⟩
  case fin =>
   rintro⟨b1,b2⟩ s' ⟨hb',rfl,i,hi,up,hz,hR⟩
   simp only at hb'
   subst hb'
   have ge:min its.size its2.size<=i:=by
    rcases Nat.lt_or_ge i (its.toList.zip its2.toList).length with z | z
    ·rw[List.drop_eq_getElem_cons z]at hz;cases hz
    ·exact hZ▸z
   rw[List.drop_of_length_le (by rw[List.length_range];exact ge)]at hR
   wp_walk
   exact⟨_,rfl,by simpa[Builtin.Tuple.tupleCompareSizes,lxL]using hR⟩
  case h =>
   exact⟨rfl,rfl,0,Nat.zero_le _,(fun m hm=>absurd hm (Nat.not_lt_zero m)),rfl,by simpa using h⟩
theorem LtAt.tups{A:Around}{s:Shared}{p q:Addr}{its its2:Array Value}{e r:Nat->Bool}(hu:A.units<cLine)(x:s.heap.IsTuple p its)(y:s.heap.IsTuple q its2)(he:∀ j (h1:j<its.size) (h2:j<its2.size),(∀ i,i<j->e i=true)->SeqAt.EqAt A.in1 s its[j] its2[j] (e j))
  (hr:∀ j (h1:j<its.size) (h2:j<its2.size),(∀ i,i<j->e i=true)->e j=false->LtAt A.in1 s its[j] its2[j] (r j)):LtAt A s (.ref p) (.ref q) (lxL e r (decide (its.size<its2.size)) (List.range (min its.size its2.size))):=fun prog w E Q h=>by
 obtain⟨⟨cls,dd,data,sl⟩,g1,c1,n,d1⟩:=id x
 obtain⟨⟨cls2,dd2,data2,sl2⟩,g2,c2,n2,d2⟩:=id y
 simp only at c1 d1 c2 d2
 subst c1 d1 c2 d2
 exact richCompare_meets_room (op:=.Lt) ⟨_,g1,rfl⟩ ⟨_,g2,rfl⟩ F.slot_tuple_lt F.entry_tuple_lt (F.args_tuple_lt_2 _ _) (tupG_meets p q its its2 n n2 dd dd2 sl sl2 e r)
  ⟨g1,g2,he,hr,show Value.bool _≠Value.notImplemented/\Q (.bool _) s from⟨(fun x=>nomatch x),h⟩⟩ hu
open PySem PySem.W PyProof.Rows
noncomputable def CmpH(prog:Program)(w:World)(A:Around)(g0:Heap)(n:Nat)(P:Nat->Value->Prop)(bt:Nat->Nat->Bool):Prop :=
 ∀ j u v (s:Shared) (Q:Value->Shared->Prop) (E:Value->Shared->Prop),j+1<n->(∀ b o,g0.get? b=some o->s.heap.get? b=some o)->P (j+1) u->P (argBest bt j) v->Q (.bool (bt (j+1) (argBest bt j))) s->wpAny (model prog w) A (richCompare .Lt u v) Q E s
section
variable{prog:Program}{w:World}{A:Around}{R:Result->Shared->Prop}{I:Addr}{fp wr:List Addr}{n:Nat}{P:Nat->Value->Prop}{St:Nat->Heap->Prop}{g0:Heap}
theorem min_turns(W:Walks prog w A.in1 I fp wr n P St)(bt:Nat->Nat->Bool)(cm:CmpH prog w A.in1 g0 n P bt)(S:Addr)(nf:S∉fp)(nw:∀ b o,g0.get? b=some o->b∉wr/\b≠S) :
  ∀ (k j:Nat) (s:Shared) (x:Value) (c:Nat),n-(j+1)=k->j+1<=n->St (j+1) s.heap->(∀ b o,g0.get? b=some o->s.heap.get? b=some o)->P (argBest bt j) x ->
  s.heap.get? S=some { cls:=.type "list",dict:=none,data:=.seq #[x,x] c,slots:=#[] } ->
  (∀ v g tk,P (argBest bt (n-1)) v->(∀ b o,b∉wr->b≠S->s.heap.get? b=some o->g.get? b=some o)->R (.ok (.ret v)) { s with heap:=g,toks:=tk }) ->
  codeAny (model prog w) A (.builtin "min.loop" ⟨[.ref I,.none,.ref S],[]⟩) R s:=by
 have sw:S∉wr:=fun h=>nf (W.sub _ h)
 have nm:(toString "min"++toString ".loop":String) = "min.loop":=by decide
 intro k
 induction k with
 |zero =>
  intro j s x c hk hj st ex px hS hR
  have e:j+1=n:=by lia
  refine codeAny_builtin F.entry_min_loop ?_;rw[Around.under_plainId F.plain_min_loop _]
  show wpAny _ A.in1 (seqItems? (.ref S) >>= _) _ _ s;refine wpAny_bind (wpAny_seqItems hS rfl ?_)
  show wpAny _ A.in1 (tryCatch (pyNext (.ref I)) _ >>= _) _ _ s;refine wpAny_bind (wpAny_tryCatch (W.done s _ _ (e▸st) fun g tk kp=>?_))
  have hS':=kp S _ sw hS
  show wpAny _ A.in1 (updateSeq S (fun _=>#[]) >>= _) _ _ _;refine wpAny_bind (wpAny_updateSeq hS' rfl (wpAny_bind (wpAny_letGo (wpAny_pure ?_))))
  refine hR x _ tk (by rw[<- e];exact px) fun b o bw bS z=>(Heap.get?_update_other _ _ (Ne.symm bS)).trans (kp b o bw z)
 |succ k ih =>
  intro j s x c hk hj st ex px hS hR
  have lt:j+1<n:=by omega
  refine codeAny_builtin F.entry_min_loop ?_;rw[Around.under_plainId F.plain_min_loop _]
  show wpAny _ A.in1 (seqItems? (.ref S) >>= _) _ _ s;refine wpAny_bind (wpAny_seqItems hS rfl ?_)
  show wpAny _ A.in1 (tryCatch (pyNext (.ref I)) _ >>= _) _ _ s;refine wpAny_bind (wpAny_tryCatch (W.item (j+1) s _ _ lt st fun v g tk pv st' kp=>?_))
  have hS':=kp S _ sw hS
  have ex':∀ b o,g0.get? b=some o->g.get? b=some o:=fun b o z=>kp b o (nw b o z).1 (ex b o z)
  show wpAny _ A.in1 (tryCatch (holding [v,v] (richCompare .Lt v x >>= _)) _ >>= _) _ _ _;refine wpAny_bind (wpAny_tryCatch (wpAny_holding (wpAny_bind (cm j v x _ _ _ lt ex' pv px ?_))))
  refine wpAny_bind (wpAny_holding (wpAny_truthy_bool (wpAny_bind (wpAny_letGo (wpAny_pure ?_)))))
  cases hb:bt (j+1) (argBest bt j)with
  |true =>
   simp only[if_true];refine wpAny_bind (wpAny_updateSeq hS' rfl (wpAny_bind (wpAny_letGo ?_)));rw[nm]
   refine wpAny_pure ⟨plainId_quiet F.plain_min_loop _,ih (j+1) _ v _ (by omega) lt (W.frame _ _ _ st' fun b bf o z=>(Heap.get?_update_other _ _ (fun h:S=b=>nf (by rw[h];exact bf))).trans z) (fun b o z=>(Heap.get?_update_other _ _ (Ne.symm (nw b o z).2)).trans (ex' b o z)) (by simp only[argBest,hb,if_true];exact pv) (Heap.get?_update_self _ hS' rfl) fun v' g' tk' pv' kp'=>?_⟩
   exact hR v' g' tk' pv' fun b o bw bS z=>kp' b o bw bS ((Heap.get?_update_other _ _ (Ne.symm bS)).trans (kp b o bw z))
  |false =>
   simp only[Bool.false_eq_true,if_false];refine wpAny_bind (wpAny_letGo ?_);rw[nm]
   refine wpAny_pure ⟨plainId_quiet F.plain_min_loop _,ih (j+1) _ x c (by omega) lt st' ex' (by simp only[argBest,hb,Bool.false_eq_true,if_false];exact px) hS' fun v' g' tk' pv' kp'=>?_⟩
   exact hR v' g' tk' pv' fun b o bw bS z=>kp' b o bw bS (kp b o bw z)
theorem min_first(W:Walks prog w A.in1 I fp wr n P St)(bt:Nat->Nat->Bool)(cm:CmpH prog w A.in1 g0 n P bt)(S:Addr)(nf:S∉fp)(nw:∀ b o,g0.get? b=some o->b∉wr/\b≠S)(hn:0<n){s:Shared}{c:Nat}(st:St 0 s.heap)(ex:∀ b o,g0.get? b=some o->s.heap.get? b=some o)
  (hS:s.heap.get? S=some { cls:=.type "list",dict:=none,data:=.seq #[] c,slots:=#[] })
  (hR:∀ v g tk,P (argBest bt (n-1)) v->(∀ b o,b∉wr->b≠S->s.heap.get? b=some o->g.get? b=some o)->R (.ok (.ret v)) { s with heap:=g,toks:=tk }) :
  codeAny (model prog w) A (.builtin "min.loop" ⟨[.ref I,.none,.ref S],[]⟩) R s:=by
 have sw:S∉wr:=fun h=>nf (W.sub _ h)
 have nm:(toString "min"++toString ".loop":String) = "min.loop":=by decide
 refine codeAny_builtin F.entry_min_loop ?_;rw[Around.under_plainId F.plain_min_loop _]
 show wpAny _ A.in1 (seqItems? (.ref S) >>= _) _ _ s;refine wpAny_bind (wpAny_seqItems hS rfl ?_)
 show wpAny _ A.in1 (tryCatch (pyNext (.ref I)) _ >>= _) _ _ s;refine wpAny_bind (wpAny_tryCatch (W.item 0 s _ _ hn st fun v g tk pv st' kp=>?_))
 have hS':=kp S _ sw hS
 show wpAny _ A.in1 (updateSeq S (fun _=>#[v,v]) >>= _) _ _ _;refine wpAny_bind (wpAny_updateSeq hS' rfl ?_);rw[nm]
 refine wpAny_pure ⟨plainId_quiet F.plain_min_loop _,min_turns W bt cm S nf nw _ 0 _ v _ rfl hn (W.frame _ _ _ st' fun b bf o z=>(Heap.get?_update_other _ _ (fun h:S=b=>nf (by rw[h];exact bf))).trans z) (fun b o z=>(Heap.get?_update_other _ _ (Ne.symm (nw b o z).2)).trans (kp b o (nw b o z).1 (ex b o z))) pv (Heap.get?_update_self _ hS' rfl) fun v' g' tk' pv' kp'=>?_⟩
 exact hR v' g' tk' pv' fun b o bw bS z=>kp' b o bw bS ((Heap.get?_update_other _ _ (Ne.symm bS)).trans (kp b o bw z))
end
section
variable{prog:Program}{w:World}{A:Around}{E:Value->Shared->Prop}{s:Shared}
theorem no1{n:Nat}(h:n+1<n):False:=by omega
theorem no2{n:Nat}(h:n+1+1<n):False:=by omega
theorem no3{n:Nat}(h:n+1+1=n):False:=by omega
theorem min_twoH{a b:Value}{l:Bool}{Q:Value->Shared->Prop}(hh:A.handled=none)(cm:∀ (s':Shared) (Q':Value->Shared->Prop) (E':Value->Shared->Prop),(∀ c o,s.heap.get? c=some o->s'.heap.get? c=some o)->Q' (.bool l) s'->wpAny (model prog w) A.in1 (richCompare .Lt b a) Q' E' s')
  (q:∀ g tk,(∀ c o,s.heap.get? c=some o->g.get? c=some o)->Q (if l=true then b else a) { s with heap:=g,toks:=tk }):wpAny (model prog w) A (call (.builtin "min") [a,b]) Q E s:=by
 have nm:(toString "min"++toString ".loop":String) = "min.loop":=by decide
 refine call_function_tree F.kind_min F.plain_min F.entry_min (F.args_min2 _ _) ?_
 show wpAny _ A.in1 (Builtin.Builtins.bindParams "min" ["key","default"] 0 ⟨[],[]⟩ >>= _) _ _ s;refine wpAny_bind (wpAny_of_eq (show Builtin.Builtins.bindParams "min" ["key","default"] 0 ⟨[],[]⟩=pure [none,none]from rfl) ?_)
 show wpAny _ A.in1 (newTuple [a,b] >>= _) _ _ s;refine wpAny_bind (wpAny_newObj_type (wpAny_bind ?_))
 have hT:(s.heap.push { cls:=.type "tuple",data:=.seq #[a,b] }).IsTuple s.heap.objs.size #[a,b]:=⟨_,Heap.get?_push_size _ rfl,rfl,0,rfl⟩
 have hsz:(s.heap.push { cls:=.type "tuple",data:=.seq #[a,b] }).objs.size=s.heap.objs.size+1:=Heap.size_push ..
 refine wpAny_pyIter_tuple hT (wpAny_bind (wpAny_newObj_type ?_))
 rw[nm]
 have W:=Walks.tuple (prog:=prog) (w:=w) (A:=A.in1) hh (s.heap.push { cls:=.type "tuple",data:=.seq #[a,b] }).objs.size s.heap.objs.size (by rw[hsz];exact Nat.ne_of_lt (Nat.lt_succ_self _)) #[a,b]
 have big:∀ c o,s.heap.get? c=some o->c<s.heap.objs.size:=fun c o e=>Heap.lt_size e
 refine wpAny_pure ⟨plainId_quiet F.plain_min_loop _,min_first (g0:=s.heap) W (fun _ _=>l) (fun j u v s' Q' E' jl ex pu pv hq=>?_) _ ?_ (fun c o e=>?_) (by show 0<2;decide) ⟨⟨_,Heap.get?_push_of_some _ (Heap.get?_push_size _ rfl),rfl,rfl⟩,(hT.push _).push _⟩ (fun c o e=>Heap.get?_push_of_some _ (Heap.get?_push_of_some _ (Heap.get?_push_of_some _ e))) (Heap.get?_push_size _ rfl) fun v g tk pv kp=>?_⟩
 ·have jl:j+1<2:=jl
  have:j=0:=by omega
  subst this
  have pu:some b=some u:=pu
  have pv:some a=some v:=pv
  injection pu with pu
  injection pv with pv
  subst pu pv
  exact cm s' Q' E' ex hq
 ·intro hm
  rcases List.mem_cons.mp hm with e | hm
  ·rw[Heap.size_push]at e
   exact absurd e (Nat.succ_ne_self _)
  ·have e:=List.mem_singleton.mp hm
   rw[Heap.size_push,hsz]at e
   exact no3 e
 ·have:=big c o e
  refine⟨fun hm=>?_,fun z=>?_⟩
  ·rw[List.mem_singleton.mp hm,hsz]at this
   exact no1 this
  ·rw[z,Heap.size_push,hsz]at this
   exact no2 this
 ·have ev:v=if l=true then b else a:=by
   cases l with
   |true =>
    have pv:some b=some v:=pv
    injection pv with pv
    exact pv.symm
   |false =>
    have pv:some a=some v:=pv
    injection pv with pv
    exact pv.symm
  rw[ev]
  refine q g tk fun c o e=>kp c o (fun hm=>?_) (fun z=>?_) (Heap.get?_push_of_some _ (Heap.get?_push_of_some _ (Heap.get?_push_of_some _ e)))
  ·have:=big c o e
   rw[List.mem_singleton.mp hm,hsz]at this
   exact no1 this
  ·have:=big c o e
   rw[z,Heap.size_push,hsz]at this
   exact no2 this
end
end Srt
namespace L2
open PySem PySem.W PyProof.Rows Srt
open PySem PySem.W PyProof.Rows Srt
theorem all_like{ns ms:List Int}{a b:Nat}(l1:ns.length=a)(l2:ms.length=b):((List.range (min a b)).all (fun j=>decide (ns[j]?=ms[j]?)) && a == b)=decide (ns=ms):=by
 rw[Bool.eq_iff_iff,Bool.and_eq_true,List.all_eq_true,decide_eq_true_eq,beq_iff_eq]
 constructor
 ·rintro⟨h1,h2⟩
  apply List.ext_getElem?
  intro i
  by_cases hi:i<ns.length
  ·exact of_decide_eq_true (h1 i (List.mem_range.mpr (by omega)))
  ·rw[List.getElem?_eq_none (by omega),List.getElem?_eq_none (by omega)]
 ·rintro rfl
  exact⟨fun i _=>decide_eq_true rfl,by omega⟩
open PySem PySem.W PyProof.Rows Srt
noncomputable def oI:Option Int->V
 |some i=>.int i
 |none=>.non
noncomputable def lexO:List (Option Int)->List (Option Int)->Bool
 |a :: r,b :: s=>if a=b then lexO r s else match a,b with
  |some x,some y=>decide (x<y)
  | _,_=>false
 | _,_=>false
noncomputable def LikeO(xs ys:List (Option Int)):Prop:=xs.map Option.isSome=ys.map Option.isSome
theorem lexO_lx(tl:Bool):∀ (xs ys:List (Option Int)) (k:Nat) (e r:Nat->Bool),LikeO xs ys->(∀ j,j<xs.length->e (k+j)=decide (xs[j]?=ys[j]?))->(∀ j x y,xs[j]?=some (some x)->ys[j]?=some (some y)->r (k+j)=decide (x<y))->(tl=false) ->
  lxL e r tl ((List.range xs.length).map (k + ·))=lexO xs ys
 |[],[],k,e,r,_,_,_,t=>by
  show tl=false
  exact t
 |[],b :: s,_,_,_,l,_,_,_=>by cases l
 |a :: xs,[],_,_,_,l,_,_,_=>by cases l
 |a :: xs,b :: ys,k,e,r,l,he,hr,t=>by
  injection l with l1 l2
  have ih:=lexO_lx tl xs ys (k+1) e r l2 (fun j hj=>by
   have:=he (j+1) (by rw[List.length_cons];omega)
   rw[show k+1+j=k+(j+1) by omega,this];rfl) (fun j x y hx hy=>by
   rw[show k+1+j=k+(j+1) by omega]
   exact hr (j+1) x y hx hy) t
  have el:(List.range (a :: xs).length).map (k + ·)=k :: (List.range xs.length).map (k+1 + ·):=by
   rw[List.length_cons,List.range_succ_eq_map,List.map_cons,List.map_map]
   congr 1
   refine List.map_congr_left fun j _=>?_
   show k+(j+1)=k+1+j
   omega
  rw[el]
  have e0:=he 0 (by simp)
  have e0:e k=decide (a=b):=by
   rw[show k=k+0 from rfl,e0]
   simp
  unfold lxL lexO
  by_cases ab:a=b
  ·rw[if_pos ab,e0,decide_eq_true ab,if_pos rfl,ih]
  ·rw[if_neg ab,e0,decide_eq_false ab,if_neg Bool.false_ne_true]
   cases a with
   |none =>
    cases b with
    |none=>exact absurd rfl ab
    |some y=>cases l1
   |some x =>
    cases b with
    |none=>cases l1
    |some y=>exact hr 0 x y rfl rfl
theorem eqAt_opt{A:Around}{s:Shared}{a b:Option Int}{u v:Value}(h:a.isSome=b.isSome)(r:RelV (oI a) u)(r':RelV (oI b) v):SeqAt.EqAt A s u v (decide (a=b)):=by
 cases a with
 |none =>
  cases b with
  |none =>
   cases r
   cases r'
   exact SeqAt.EqAt.same _
  |some y=>cases h
 |some x =>
  cases b with
  |none=>cases h
  |some y =>
   obtain⟨t,rfl⟩:=r
   obtain⟨t',rfl⟩:=r'
   have:=SeqAt.EqAt.int_int (A:=A) (s:=s) x t y t'
   have e:(x == y)=decide (some x=some y):=by
    rw[Bool.eq_iff_iff,beq_iff_eq,decide_eq_true_eq]
    exact⟨fun z=>by rw[z],fun z=>by injection z⟩
   rw[e]at this
   exact this
theorem ltAt_opt{A:Around}{s:Shared}{x y:Int}{u v:Value}(r:RelV (oI (some x)) u)(r':RelV (oI (some y)) v):LtAt A s u v (decide (x<y)):=fun prog w E Q h=>by
 obtain⟨t,rfl⟩:=r
 obtain⟨t',rfl⟩:=r'
 exact rcLt h
theorem like_len{xs ys:List (Option Int)}(h:LikeO xs ys):xs.length=ys.length:=by
 have:=congrArg List.length h
 rw[List.length_map,List.length_map]at this
 exact this
theorem like_at{xs ys:List (Option Int)}(h:LikeO xs ys){j:Nat}(h1:j<xs.length)(h2:j<ys.length):xs[j].isSome=ys[j].isSome:=by
 have e:(xs.map Option.isSome)[j]?=(ys.map Option.isSome)[j]?:=by rw[h]
 rw[List.getElem?_map,List.getElem?_map,List.getElem?_eq_getElem h1,List.getElem?_eq_getElem h2]at e
 injection e
theorem ltAt_rows{X:Cx}{pins:List (Addr×Obj)}{σ:St}{H:Hp}{s:Shared}(I:Inv X pins σ H s){A:Around}(hu:A.units<cLine){a b:Addr}{xs ys:List (Option Int)}(ha:H a=some (.tup (xs.map oI)))(hb:H b=some (.tup (ys.map oI)))(lk:LikeO xs ys){s':Shared}(ex:∀ c o,s.heap.get? c=some o->s'.heap.get? c=some o) :
  LtAt A s' (.ref a) (.ref b) (lexO xs ys):=by
 obtain⟨its,r,pl,hz⟩:=I.tuple (SqT.of (K:=X.K) ha)
 obtain⟨its',r',pl',hz'⟩:=I.tuple (SqT.of (K:=X.K) hb)
 have l1:=r.length
 have l2:=r'.length
 rw[List.length_map]at l1 l2
 have ll:=like_len lk
 have pl1:s'.heap.IsTuple a its.toArray:=by
  obtain⟨o,e,q⟩:=(show s.heap.IsTuple a its.toArray from pl)
  exact⟨o,ex _ _ e,q⟩
 have pl2:s'.heap.IsTuple b its'.toArray:=by
  obtain⟨o,e,q⟩:=(show s.heap.IsTuple b its'.toArray from pl')
  exact⟨o,ex _ _ e,q⟩
 have at1:∀ j (h:j<its.length) (h':j<xs.length),RelV (oI xs[j]) its[j]:=fun j h h'=>by
  obtain⟨u,hu,ru⟩:=r.get (i:=j) (x:=oI xs[j]) (by rw[List.getElem?_map,List.getElem?_eq_getElem h'];rfl)
  rw[List.getElem?_eq_getElem h]at hu
  injection hu with hu
  rw[hu]
  exact ru
 have at2:∀ j (h:j<its'.length) (h':j<ys.length),RelV (oI ys[j]) its'[j]:=fun j h h'=>by
  obtain⟨u,hu,ru⟩:=r'.get (i:=j) (x:=oI ys[j]) (by rw[List.getElem?_map,List.getElem?_eq_getElem h'];rfl)
  rw[List.getElem?_eq_getElem h]at hu
  injection hu with hu
  rw[hu]
  exact ru
 have t:=LtAt.tups (A:=A) (s:=s') (e:=fun j=>decide (xs[j]?=ys[j]?)) (r:=fun j=>match xs[j]?,ys[j]? with | some (some x),some (some y)=>decide (x<y) | _,_=>false) hu pl1 pl2 (fun j h1 h2 _=>?_) (fun j h1 h2 _ ne=>?_)
 ·have e:=lexO_lx (decide (its.toArray.size<its'.toArray.size)) xs ys 0 (fun j=>decide (xs[j]?=ys[j]?)) (fun j=>match xs[j]?,ys[j]? with | some (some x),some (some y)=>decide (x<y) | _,_=>false) lk (fun j _=>by rw[Nat.zero_add]) (fun j x y hx hy=>by rw[Nat.zero_add];simp only[hx,hy]) (decide_eq_false (by rw[List.size_toArray,List.size_toArray];omega))
  have e2:(List.range (min its.toArray.size its'.toArray.size))=(List.range xs.length).map (0 + ·):=by
   rw[List.size_toArray,List.size_toArray,show min its.length its'.length=xs.length by omega]
   simp
  rw[e2,e]at t
  exact t
 ·have h1:j<its.length:=by simpa using h1
  have h2:j<its'.length:=by simpa using h2
  have:=eqAt_opt (A:=A.in1) (s:=s') (like_at lk (j:=j) (by omega) (by omega)) (at1 j h1 (by omega)) (at2 j h2 (by omega))
  rw[List.getElem?_eq_getElem (by omega),List.getElem?_eq_getElem (by omega)]
  have e:decide (some xs[j]=some ys[j])=decide (xs[j]=ys[j]):=by rw[decide_eq_decide];exact⟨fun z=>by injection z,fun z=>by rw[z]⟩
  rw[e]
  simpa using this
 ·have h1:j<its.length:=by simpa using h1
  have h2:j<its'.length:=by simpa using h2
  have lj:=like_at lk (j:=j) (by omega) (by omega)
  have r1:=at1 j h1 (by omega)
  have r2:=at2 j h2 (by omega)
  have ne:¬ xs[j]=ys[j]:=fun z=>by
   have:=of_decide_eq_false ne
   rw[List.getElem?_eq_getElem (by omega),List.getElem?_eq_getElem (by omega),z]at this
   exact this rfl
  have gx:xs[j]?=some xs[j]:=List.getElem?_eq_getElem (by omega)
  have gy:ys[j]?=some ys[j]:=List.getElem?_eq_getElem (by omega)
  simp only[gx,gy]
  generalize xs[j]=x at *
  generalize ys[j]=y at *
  cases x with
  |none =>
   cases y with
   |none=>exact absurd rfl ne
   |some y=>cases lj
  |some x =>
   cases y with
   |none=>cases lj
   |some y =>
    have:=ltAt_opt (A:=A.in1) (s:=s') r1 r2
    simpa using this
section
variable{X:Cx}
theorem call_minO(hc:X.calm=true)(hu:X.A.units+1<cLine):CallR X (.builtin "min") (fun xs H Q=>∃ (a b:Addr) (as bs:List (Option Int)),xs=[.ref a,.ref b]/\H a=some (.tup (as.map oI))/\H b=some (.tup (bs.map oI))/\LikeO bs as/\Q (.ref (if lexO bs as=true then b else a)) H):=by
 intro pins s σ H xs us Q I r h
 obtain⟨a,b,as,bs,rfl,ha,hb,lk,q⟩:=h
 obtain⟨u,w',rfl,ru,rw'⟩:=vals2 r
 cases ru
 cases rw'
 refine min_twoH (l:=lexO bs as) (I.ok.hd hc) (fun s' Q' E' ex q'=>ltAt_rows I (show X.A.in1.units<cLine from hu) hb ha lk ex _ _ _ _ q') fun g tk kp=>⟨.ref (if lexO bs as=true then b else a),H,I.kept kp,?_,q⟩
 cases lexO bs as
 ·rfl
 ·rfl
theorem call_min3(hc:X.calm=true)(hu:X.A.units+1<cLine):CallR X (.builtin "min") (fun xs H Q=>∃ (a b:Addr) (i j:Int) (x y z w:V),xs=[.ref a,.ref b]/\H a=some (.tup [.int i,x,y])/\H b=some (.tup [.int j,z,w])/\i≠j/\Q (.ref (if j<i then b else a)) H):=by
 intro pins s σ H xs us Q I r h
 obtain⟨a,b,i,j,x,y,z,w,rfl,ha,hb,ne,q⟩:=h
 obtain⟨u,w',rfl,ru,rw'⟩:=vals2 r
 cases ru
 cases rw'
 obtain⟨its,r1,pl,hz⟩:=I.tuple (SqT.of (K:=X.K) ha)
 obtain⟨its',r2,pl',hz'⟩:=I.tuple (SqT.of (K:=X.K) hb)
 cases r1 with
 | @cons _ u0 _ us0 q0 r1 =>
  cases r2 with
  | @cons _ v0 _ vs0 p0 r2 =>
   obtain⟨t,rfl⟩:=(show ∃ t,u0=Value.int i t from q0)
   obtain⟨t',rfl⟩:=(show ∃ t,v0=Value.int j t from p0)
   refine min_twoH (l:=decide (j<i)) (I.ok.hd hc) (fun s' Q' E' ex q'=>?_) fun g tk kp=>⟨.ref (if j<i then b else a),H,I.kept kp,?_,q⟩
   ·have pl1:s'.heap.IsTuple a (Value.int i t :: us0).toArray:=by
     obtain⟨o,e,q⟩:=(show s.heap.IsTuple a _ from pl)
     exact⟨o,ex _ _ e,q⟩
    have pl2:s'.heap.IsTuple b (Value.int j t' :: vs0).toArray:=by
     obtain⟨o,e,q⟩:=(show s.heap.IsTuple b _ from pl')
     exact⟨o,ex _ _ e,q⟩
    have T:=LtAt.tups (A:=X.A.in1) (s:=s') (e:=fun k=>decide (k≠0)) (r:=fun _=>decide (j<i)) hu pl2 pl1 (fun k h1 h2 up=>?_) (fun k h1 h2 up e=>?_)
    ·have l1:us0.length=2:=by have:=r1.length;simpa using this.symm
     have l2:vs0.length=2:=by have:=r2.length;simpa using this.symm
     have e:lxL (fun k=>decide (k≠0)) (fun _=>decide (j<i)) (decide ((Value.int j t' :: vs0).toArray.size <(Value.int i t :: us0).toArray.size)) (List.range (min (Value.int j t' :: vs0).toArray.size (Value.int i t :: us0).toArray.size))=decide (j<i):=by
      rw[List.size_toArray,List.size_toArray,List.length_cons,List.length_cons,l1,l2]
      rfl
     rw[e]at T
     exact T _ _ _ _ q'
    ·cases k with
     |zero =>
      have:=SeqAt.EqAt.int_int (A:=X.A.in1.in1) (s:=s') j t' i t
      have e:(j == i)=decide ((0:Nat)≠0):=by
       rw[decide_eq_false (fun z=>z rfl),beq_eq_false_iff_ne]
       exact fun z=>ne z.symm
      rw[e]at this
      exact this
     |succ k =>
      have:=up 0 (Nat.succ_pos k)
      cases this
    ·cases k with
     |zero=>exact fun prog w E Q h=>rcLt h
     |succ k=>cases e
   ·by_cases z:j<i
    ·rw[if_pos z,decide_eq_true z];rfl
    ·rw[if_neg z,decide_eq_false z];rfl
end
end L2
namespace Nar
open L2
noncomputable abbrev Row:=List (Option Int)
noncomputable abbrev Tie:=Int×Int×Int
noncomputable def atR(r:Row)(p:Int):Option Int:=(r[p.toNat]?).join
noncomputable def giv(r:Row)(p q:Int):Row:=r.set p.toNat (some q)
noncomputable def bes(ties:List Tie)(i:Int):List (Int×Int):=ties.flatMap fun x=>if x.1=i then [(x.2.1,x.2.2)]else if x.2.1=i then [(x.1,x.2.2)]else []
noncomputable def inO(r:Row)(q:Int)(x:Int×Int):Int:=match atR r x.1 with
 |some y=>if y=q then 0 else x.2
 |none=>0
noncomputable def inc(ties:List Tie)(r:Row)(p q:Int):Int:=((bes ties p).map (inO r q)).sum
noncomputable def dfc(r:Row)(x:Tie):Int:=match atR r x.1,atR r x.2.1 with
 |some a,some b=>if a=b then 0 else x.2.2
 | _,_=>0
noncomputable def cst(ties:List Tie)(r:Row):Int:=(ties.map (dfc r)).sum
theorem at_giv{r:Row}{p q:Int}(h:p.toNat<r.length):atR (giv r p q) p=some q:=by
 unfold atR giv
 rw[List.getElem?_set_self h]
 rfl
theorem at_giv_ne{r:Row}{p q f:Int}(h:f.toNat≠p.toNat):atR (giv r p q) f=atR r f:=by
 unfold atR giv
 rw[List.getElem?_set_ne (Ne.symm h)]
theorem cst_giv{r:Row}{p q:Int}(p0:0<=p)(hp:p.toNat<r.length)(hn:atR r p=none):∀ {ties:List Tie},(∀ x∈ties,0<=x.1/\0<=x.2.1/\x.1≠x.2.1)->cst ties (giv r p q)=cst ties r+inc ties r p q
 |[],_=>rfl
 |x :: ties,h=>by
  have ih:=cst_giv (q:=q) p0 hp hn (ties:=ties) fun y hy=>h y (List.mem_cons_of_mem _ hy)
  obtain⟨x1,x2,x3⟩:=h x (List.mem_cons_self ..)
  unfold cst inc bes at *
  rw[List.map_cons,List.sum_cons,List.map_cons,List.sum_cons,List.flatMap_cons,List.map_append,List.sum_append,ih]
  have key:dfc (giv r p q) x=dfc r x+((if x.1=p then [(x.2.1,x.2.2)]else if x.2.1=p then [(x.1,x.2.2)]else []).map (inO r q)).sum:=by
   by_cases e1:x.1=p
   ·have n2:x.2.1.toNat≠p.toNat:=by omega
    rw[if_pos e1]
    unfold dfc
    rw[e1,at_giv hp,hn,at_giv_ne n2]
    show(match some q,atR r x.2.1 with | some a,some b=>if a=b then 0 else x.2.2 | _,_=>0)=0+(inO r q (x.2.1,x.2.2)+0)
    unfold inO
    cases atR r x.2.1 with
    |none=>rfl
    |some y =>
     show(if q=y then 0 else x.2.2)=0+((if y=q then 0 else x.2.2)+0)
     by_cases z:q=y
     ·rw[if_pos z,if_pos z.symm];rfl
     ·rw[if_neg z,if_neg (Ne.symm z)];omega
   ·rw[if_neg e1]
    have n1:x.1.toNat≠p.toNat:=by omega
    by_cases e2:x.2.1=p
    ·rw[if_pos e2]
     unfold dfc
     rw[e2,at_giv hp,hn,at_giv_ne n1]
     show _=_+(inO r q (x.1,x.2.2)+0)
     unfold inO
     cases atR r x.1 with
     |none=>rfl
     |some y =>
      show(if y=q then 0 else x.2.2)=0+((if y=q then 0 else x.2.2)+0)
      omega
    ·have n2:x.2.1.toNat≠p.toNat:=by omega
     rw[if_neg e2]
     unfold dfc
     rw[at_giv_ne n1,at_giv_ne n2]
     show _=_+0
     omega
  rw[key]
  omega
theorem lexO_irr:∀ r:Row,lexO r r=false
 |[]=>rfl
 |a :: r=>by unfold lexO;rw[if_pos rfl];exact lexO_irr r
theorem lexO_tri:∀ {x y:Row},LikeO x y->lexO x y=false->lexO y x=false->x=y
 |[],[],_,_,_=>rfl
 |[],_ :: _,l,_,_=>by cases l
 | _ :: _,[],l,_,_=>by cases l
 |a :: x,b :: y,l,h1,h2=>by
  injection l with l1 l2
  unfold lexO at h1 h2
  by_cases e:a=b
  ·subst e
   rw[if_pos rfl]at h1 h2
   rw[lexO_tri l2 h1 h2]
  ·rw[if_neg e]at h1
   rw[if_neg (Ne.symm e)]at h2
   cases a with
   |none =>
    cases b with
    |none=>exact absurd rfl e
    |some _=>cases l1
   |some i =>
    cases b with
    |none=>cases l1
    |some j =>
     have h1:=of_decide_eq_false h1
     have h2:=of_decide_eq_false h2
     exact absurd (by rw[show i=j by omega]) e
theorem lexO_trans:∀ {x y z:Row},LikeO x y->LikeO y z->lexO x y=true->lexO y z=true->lexO x z=true
 |[],_,_,_,_,h,_=>by cases h
 | _ :: _,[],_,l,_,_,_=>by cases l
 | _ :: _,_ :: _,[],_,l,_,_=>by cases l
 |a :: x,b :: y,c :: z,l,l',h1,h2=>by
  injection l with l1 l2
  injection l' with l3 l4
  unfold lexO at h1 h2 ⊢
  by_cases e:a=b
  ·subst e
   rw[if_pos rfl]at h1
   by_cases e2:a=c
   ·rw[if_pos e2]at h2 ⊢
    exact lexO_trans l2 l4 h1 h2
   ·rw[if_neg e2]at h2 ⊢
    exact h2
  ·rw[if_neg e]at h1
   cases a with
   |none=>cases b with
    |none=>exact absurd rfl e
    |some _=>cases h1
   |some i=>cases b with
    |none=>cases h1
    |some j =>
     have h1:=of_decide_eq_true h1
     by_cases e2:some j=c
     ·subst e2
      rw[if_neg e]
      exact decide_eq_true h1
     ·rw[if_neg e2]at h2
      cases c with
      |none=>cases h2
      |some k =>
       have h2:=of_decide_eq_true h2
       rw[if_neg (fun z=>by injection z with z;omega)]
       exact decide_eq_true (by omega)
theorem lexO_giv(q:Int):∀ {x y:Row}{k:Nat},x[k]?=some none->y[k]?=some none->lexO (x.set k (some q)) (y.set k (some q))=lexO x y
 |[],_,_,h,_=>by cases h
 | _ :: _,[],_,_,h=>by cases h
 |a :: x,b :: y,0,h1,h2=>by
  injection h1 with h1
  injection h2 with h2
  subst h1 h2
  show lexO (some q :: x) (some q :: y)=lexO (none :: x) (none :: y)
  unfold lexO
  rw[if_pos rfl,if_pos rfl]
 |a :: x,b :: y,k+1,h1,h2=>by
  show lexO (a :: x.set k (some q)) (b :: y.set k (some q))=_
  unfold lexO
  rw[lexO_giv q (x:=x) (y:=y) (k:=k) h1 h2]
structure IsSum(S:List Row)(cf:Row->Int)(c:Int)(r:Row)(m:Int):Prop where
 mem:r∈S
 eq:cf r=c
 le:∀ x∈S,c<=cf x
 fst:∀ x∈S,cf x=c->lexO x r=false
 num:m=((S.filter fun x=>decide (cf x=c)).length:Nat)
 like:∀ x∈S,LikeO x r
theorem IsSum.perm{S S':List Row}{cf:Row->Int}{c:Int}{r:Row}{m:Int}(h:IsSum S cf c r m)(p:S.Perm S'):IsSum S' cf c r m :=
 ⟨p.mem_iff.mp h.mem,h.eq,fun x hx=>h.le x (p.mem_iff.mpr hx),fun x hx=>h.fst x (p.mem_iff.mpr hx),by rw[h.num,(p.filter _).length_eq],fun x hx=>h.like x (p.mem_iff.mpr hx)⟩
theorem IsSum.one{S:List Row}{cf:Row->Int}{c c':Int}{r r':Row}{m m':Int}(h:IsSum S cf c r m)(g:IsSum S cf c' r' m'):c=c'/\r=r'/\m=m':=by
 have e:c=c':=by
  have h1:=h.le r' g.mem
  have h2:=g.le r h.mem
  rw[g.eq]at h1
  rw[h.eq]at h2
  omega
 subst e
 refine⟨rfl,lexO_tri (g.like r h.mem) (g.fst r h.mem h.eq) (h.fst r' g.mem g.eq),?_⟩
 rw[h.num,g.num]
theorem like_symm{x y:Row}(h:LikeO x y):LikeO y x:=Eq.symm h
theorem like_trans{x y z:Row}(h:LikeO x y)(g:LikeO y z):LikeO x z:=Eq.trans h g
noncomputable def jn(a b:Int×Row×Int):Int×Row×Int:=if a.1≠b.1 then(if b.1<a.1 then b else a)else(a.1,(if lexO b.2.1 a.2.1=true then b.2.1 else a.2.1),a.2.2+b.2.2)
theorem IsSum.join{S T:List Row}{cf:Row->Int}{a b:Int×Row×Int}(h:IsSum S cf a.1 a.2.1 a.2.2)(g:IsSum T cf b.1 b.2.1 b.2.2)(lk:LikeO a.2.1 b.2.1):IsSum (T++S) cf (jn a b).1 (jn a b).2.1 (jn a b).2.2:=by
 obtain⟨c,r,m⟩:=a
 obtain⟨c',r',m'⟩:=b
 have h:IsSum S cf c r m:=h
 have g:IsSum T cf c' r' m':=g
 have lk:LikeO r r':=lk
 have likeS:∀ x∈S,LikeO x r:=h.like
 have likeT:∀ x∈T,LikeO x r':=g.like
 unfold jn
 by_cases e:c=c'
 ·subst e
  have num:(m+m':Int)=(((T++S).filter fun x=>decide (cf x=c)).length:Nat):=by
   rw[List.filter_append,List.length_append,h.num,g.num]
   omega
  rw[if_neg (fun z=>z rfl)]
  show IsSum (T++S) cf c (if lexO r' r=true then r' else r) (m+m')
  by_cases z:lexO r' r=true
  ·rw[if_pos z]
   refine⟨List.mem_append_left _ g.mem,g.eq,fun x hx=>(List.mem_append.mp hx).elim (g.le x) (h.le x),fun x hx ex=>?_,num,fun x hx=>(List.mem_append.mp hx).elim (likeT x) (fun y=>like_trans (likeS x y) lk)⟩
   rcases List.mem_append.mp hx with hx | hx
   ·exact g.fst x hx ex
   ·cases y:lexO x r' with
    |false=>rfl
    |true =>
     have:=lexO_trans (like_trans (likeS x hx) lk) (like_symm lk) y z
     rw[h.fst x hx ex]at this
     cases this
  ·rw[if_neg z]
   have z:lexO r' r=false:=by cases y:lexO r' r with | false=>rfl | true=>exact absurd y z
   refine⟨List.mem_append_right _ h.mem,h.eq,fun x hx=>(List.mem_append.mp hx).elim (g.le x) (h.le x),fun x hx ex=>?_,num,fun x hx=>(List.mem_append.mp hx).elim (fun y=>like_trans (likeT x y) (like_symm lk)) (likeS x)⟩
   rcases List.mem_append.mp hx with hx | hx
   ·cases y:lexO x r with
    |false=>rfl
    |true =>
     cases w:lexO r r' with
     |true =>
      have:=lexO_trans (like_trans (likeT x hx) (like_symm lk)) lk y w
      rw[g.fst x hx ex]at this
      cases this
     |false =>
      have:=lexO_tri lk w z
      subst this
      rw[g.fst x hx ex]at y
      cases y
   ·exact h.fst x hx ex
 ·rw[if_pos e]
  by_cases z:c'<c
  ·show IsSum (T++S) cf (if c'<c then(c',r',m')else(c,r,m)).1 (if c'<c then(c',r',m')else(c,r,m)).2.1 (if c'<c then(c',r',m')else(c,r,m)).2.2
   rw[if_pos z]
   refine⟨List.mem_append_left _ g.mem,g.eq,fun x hx=>(List.mem_append.mp hx).elim (g.le x) (fun y=>by have:=h.le x y;show c'<=_;omega),fun x hx ex=>?_,?_,fun x hx=>(List.mem_append.mp hx).elim (likeT x) (fun y=>like_trans (likeS x y) lk)⟩
   ·rcases List.mem_append.mp hx with hx | hx
    ·exact g.fst x hx ex
    ·have:=h.le x hx
     have ex:cf x=c':=ex
     omega
   ·rw[List.filter_append,List.length_append,g.num]
    have:(S.filter fun x=>decide (cf x=c'))=[]:=List.filter_eq_nil_iff.mpr fun x hx y=>by
     have:=h.le x hx
     have:=of_decide_eq_true y
     omega
    show _=((_+(S.filter fun x=>decide (cf x=c')).length:Nat):Int)
    rw[this]
    rfl
  ·have z2:c<c':=by omega
   show IsSum (T++S) cf (if c'<c then(c',r',m')else(c,r,m)).1 (if c'<c then(c',r',m')else(c,r,m)).2.1 (if c'<c then(c',r',m')else(c,r,m)).2.2
   rw[if_neg z]
   refine⟨List.mem_append_right _ h.mem,h.eq,fun x hx=>(List.mem_append.mp hx).elim (fun y=>by have:=g.le x y;show c<=_;omega) (h.le x),fun x hx ex=>?_,?_,fun x hx=>(List.mem_append.mp hx).elim (fun y=>like_trans (likeT x y) (like_symm lk)) (likeS x)⟩
   ·rcases List.mem_append.mp hx with hx | hx
    ·have:=g.le x hx
     have ex:cf x=c:=ex
     omega
    ·exact h.fst x hx ex
   ·rw[List.filter_append,List.length_append,h.num]
    have:(T.filter fun x=>decide (cf x=c))=[]:=List.filter_eq_nil_iff.mpr fun x hx y=>by
     have:=g.le x hx
     have:=of_decide_eq_true y
     omega
    show _=(((T.filter fun x=>decide (cf x=c)).length+_:Nat):Int)
    rw[this]
    simp
theorem like_giv{x y:Row}(p q:Int)(h:LikeO x y):LikeO (giv x p q) (giv y p q):=by
 unfold LikeO giv at *
 rw[List.map_set,List.map_set,h]
theorem IsSum.giv{S:List Row}{cf:Row->Int}{c d:Int}{r:Row}{m p q:Int}(h:IsSum S cf c r m)(hn:∀ x∈S,x[p.toNat]?=some none)(hd:∀ x∈S,cf (giv x p q)=cf x+d):IsSum (S.map fun x=>giv x p q) cf (c+d) (Nar.giv r p q) m:=by
 refine⟨List.mem_map.mpr ⟨r,h.mem,rfl⟩,by rw[hd r h.mem,h.eq],fun x hx=>?_,fun x hx ex=>?_,?_,fun x hx=>?_⟩
 ·obtain⟨y,hy,rfl⟩:=List.mem_map.mp hx
  have:=h.le y hy
  rw[hd y hy]
  omega
 ·obtain⟨y,hy,rfl⟩:=List.mem_map.mp hx
  rw[hd y hy]at ex
  have:=h.fst y hy (by omega)
  unfold Nar.giv
  rw[lexO_giv q (hn y hy) (hn r h.mem)]
  exact this
 ·rw[h.num,List.filter_map,List.length_map]
  congr 2
  refine List.filter_congr fun x hx=>?_
  show decide (cf x=c)=decide (cf (Nar.giv x p q)=c+d)
  rw[hd x hx,decide_eq_decide]
  omega
 ·obtain⟨y,hy,rfl⟩:=List.mem_map.mp hx
  exact like_giv p q (h.like y hy)
noncomputable abbrev Vl:=Int×Row×Int
structure DI(S:List Row)(cf:Row->Int)(ky:Row->List Int)(kv:List (List Int×Vl)):Prop where
 nd:(kv.map (·.1)).Nodup
 cov:∀ r∈S,ky r∈kv.map (·.1)
 sum:∀ e∈kv,IsSum (S.filter fun r=>decide (ky r=e.1)) cf e.2.1 e.2.2.1 e.2.2.2
noncomputable def pt(kv:List (List Int×Vl))(k:List Int)(v:Vl):List (List Int×Vl) :=
 if(kv.any fun e=>decide (e.1=k))=true then kv.map (fun e=>if e.1=k then(e.1,v)else e)else kv++[(k,v)]
theorem any_key{kv:List (List Int×Vl)}{k:List Int}:(kv.any fun e=>decide (e.1=k))=true↔k∈kv.map (·.1):=by
 rw[List.any_eq_true,List.mem_map]
 constructor
 ·rintro⟨e,he,z⟩
  exact⟨e,he,of_decide_eq_true z⟩
 ·rintro⟨e,he,z⟩
  exact⟨e,he,decide_eq_true z⟩
theorem DI.put{S B:List Row}{cf:Row->Int}{ky:Row->List Int}{kv:List (List Int×Vl)}{k:List Int}{v v':Vl}(h:DI S cf ky kv)(hB:∀ x∈B,ky x=k)(sB:IsSum B cf v.1 v.2.1 v.2.2)
  (lk:∀ x∈S,∀ y∈B,LikeO y x) (hv:(k∉kv.map (·.1)->v'=v)/\∀ o,(k,o)∈kv->v'=jn v o):DI (S++B) cf ky (pt kv k v'):=by
 have fB:∀ k',k'≠k->(B.filter fun r=>decide (ky r=k'))=[]:=fun k' ne=>List.filter_eq_nil_iff.mpr fun x hx z=>ne (by rw[<- of_decide_eq_true z,hB x hx])
 have fK:(B.filter fun r=>decide (ky r=k))=B:=List.filter_eq_self.mpr fun x hx=>decide_eq_true (hB x hx)
 unfold pt
 by_cases a:(kv.any fun e=>decide (e.1=k))=true
 ·rw[if_pos a]
  have km:(kv.map fun e=>if e.1=k then(e.1,v')else e).map (·.1)=kv.map (·.1):=by
   rw[List.map_map]
   refine List.map_congr_left fun e _=>?_
   show(if e.1=k then(e.1,v')else e).1=e.1
   split <;> rfl
  refine⟨by rw[km];exact h.nd,fun r hr=>?_,fun e he=>?_⟩
  ·rw[km]
   rcases List.mem_append.mp hr with hr | hr
   ·exact h.cov r hr
   ·rw[hB r hr];exact any_key.mp a
  ·obtain⟨e0,he0,rfl⟩:=List.mem_map.mp he
   have s0:=h.sum e0 he0
   by_cases z:e0.1=k
   ·rw[if_pos z]
    show IsSum ((S++B).filter fun r=>decide (ky r=e0.1)) cf v'.1 v'.2.1 v'.2.2
    have ev:v'=jn v e0.2:=hv.2 e0.2 (by rw[<- z];exact he0)
    rw[List.filter_append,z,fK,ev]
    rw[z]at s0
    exact IsSum.join sB s0 (lk _ (List.mem_filter.mp s0.mem).1 _ sB.mem)
   ·rw[if_neg z,List.filter_append,fB _ z,List.append_nil]
    exact s0
 ·rw[if_neg a]
  have nk:k∉kv.map (·.1):=fun z=>a (any_key.mpr z)
  have e1:=hv.1 nk
  subst e1
  refine⟨?_,fun r hr=>?_,fun e he=>?_⟩
  ·rw[List.map_append]
   refine List.nodup_append.mpr ⟨h.nd,by simp,fun x hx y hy z=>?_⟩
   rw[List.mem_singleton.mp hy]at z
   have z:x=k:=z
   rw[z]at hx
   exact nk hx
  ·rw[List.map_append]
   rcases List.mem_append.mp hr with hr | hr
   ·exact List.mem_append_left _ (h.cov r hr)
   ·exact List.mem_append_right _ (by rw[hB r hr];exact List.mem_singleton.mpr rfl)
  ·rcases List.mem_append.mp he with he | he
   ·have ne:e.1≠k:=fun z=>nk (by rw[<- z];exact List.mem_map_of_mem he)
    rw[List.filter_append,fB _ ne,List.append_nil]
    exact h.sum e he
   ·rw[List.mem_singleton.mp he]
    show IsSum ((S++B).filter fun r=>decide (ky r=k)) cf v'.1 v'.2.1 v'.2.2
    have fS:(S.filter fun r=>decide (ky r=k))=[]:=List.filter_eq_nil_iff.mpr fun x hx z=>nk (by rw[<- of_decide_eq_true z];exact h.cov x hx)
    rw[List.filter_append,fK,fS,List.nil_append]
    exact sB
theorem flat_congr{α β:Type}{f g:α->List β}:∀ {l:List α},(∀ x∈l,f x=g x)->l.flatMap f=l.flatMap g
 |[],_=>rfl
 |x :: l,h=>by
  rw[List.flatMap_cons,List.flatMap_cons,h x (List.mem_cons_self ..),flat_congr fun y hy=>h y (List.mem_cons_of_mem _ hy)]
theorem ins_one{α β:Type}[DecidableEq β](r:α)(k0:β)(F:β->List α):∀ {ks:List β},ks.Nodup->k0∈ks->(ks.flatMap fun k=>if k0=k then r :: F k else F k).Perm (r :: ks.flatMap F)
 |[],_,h=>nomatch h
 |k :: ks,nd,h=>by
  obtain⟨n1,n2⟩:=List.nodup_cons.mp nd
  rw[List.flatMap_cons,List.flatMap_cons]
  by_cases e:k0=k
  ·rw[if_pos e]
   have:(ks.flatMap fun k=>if k0=k then r :: F k else F k)=ks.flatMap F:=by
    refine flat_congr fun x hx=>?_
    rw[if_neg fun z=>n1 (by rw[<- e,z];exact hx)]
   rw[this]
   exact .refl _
  ·rw[if_neg e]
   have ih:=ins_one r k0 F n2 ((List.mem_cons.mp h).resolve_left e)
   exact(List.Perm.append_left _ ih).trans List.perm_middle
theorem parts_perm{α β:Type}[DecidableEq β](ky:α->β){ks:List β}(nd:ks.Nodup):∀ {S:List α},(∀ r∈S,ky r∈ks)->(ks.flatMap fun k=>S.filter fun r=>decide (ky r=k)).Perm S
 |[],_=>by
  have:(ks.flatMap fun k=>([]:List α).filter fun r=>decide (ky r=k))=[]:=by
   rw[List.flatMap_eq_nil_iff]
   exact fun _ _=>rfl
  rw[this]
 |r :: S,h=>by
  have ih:=parts_perm ky nd (S:=S) fun x hx=>h x (List.mem_cons_of_mem _ hx)
  have e:(ks.flatMap fun k=>(r :: S).filter fun r=>decide (ky r=k))=ks.flatMap fun k=>if ky r=k then r :: S.filter (fun r=>decide (ky r=k))else S.filter fun r=>decide (ky r=k):=by
   refine flat_congr fun k _=>?_
   rw[List.filter_cons]
   by_cases z:ky r=k
   ·rw[if_pos z,if_pos (decide_eq_true z)]
   ·rw[if_neg z,if_neg (by rw[decide_eq_false z];exact Bool.false_ne_true)]
  rw[e]
  exact(ins_one r (ky r) _ nd (h r (List.mem_cons_self ..))).trans (.cons _ ih)
theorem flat_cons{α β:Type}(a:β->α)(F:β->List α):∀ Q:List β,(Q.flatMap fun q=>a q :: F q).Perm (Q.map a++Q.flatMap F)
 |[]=>.refl _
 |q :: Q=>by
  rw[List.flatMap_cons,List.flatMap_cons,List.map_cons]
  show(a q :: (F q++Q.flatMap fun q=>a q :: F q)).Perm (a q :: (Q.map a++(F q++Q.flatMap F)))
  refine .cons _ ?_
  refine(List.Perm.append_left _ (flat_cons a F Q)).trans ?_
  rw[<- List.append_assoc,<- List.append_assoc]
  exact List.Perm.append_right _ List.perm_append_comm
theorem swap_perm{α β γ:Type}(g:α->β->γ)(Q:List β):∀ C:List α,(C.flatMap fun r=>Q.map (g r)).Perm (Q.flatMap fun q=>C.map fun r=>g r q)
 |[]=>by
  have:(Q.flatMap fun q=>([]:List α).map fun r=>g r q)=[]:=by
   rw[List.flatMap_eq_nil_iff]
   exact fun _ _=>rfl
  rw[this]
  exact .refl _
 |r :: C=>by
  rw[List.flatMap_cons]
  exact(List.Perm.append_left _ (swap_perm g Q C)).trans (flat_cons (g r) _ Q).symm
theorem flat_perm{α β:Type}{f:α->List β}{l l':List α}(h:l.Perm l'):(l.flatMap f).Perm (l'.flatMap f):=by
 induction h with
 |nil=>exact .refl _
 |cons x _ ih=>rw[List.flatMap_cons,List.flatMap_cons];exact List.Perm.append_left _ ih
 |swap x y l =>
  rw[List.flatMap_cons,List.flatMap_cons,List.flatMap_cons,List.flatMap_cons,<- List.append_assoc,<- List.append_assoc]
  exact List.Perm.append_right _ List.perm_append_comm
 |trans _ _ a b=>exact a.trans b
theorem flat_permF{α β:Type}{f g:α->List β}:∀ {l:List α},(∀ x∈l,(f x).Perm (g x))->(l.flatMap f).Perm (l.flatMap g)
 |[],_=>.refl _
 |x :: l,h=>by
  rw[List.flatMap_cons,List.flatMap_cons]
  exact(h x (List.mem_cons_self ..)).append (flat_permF fun y hy=>h y (List.mem_cons_of_mem _ hy))
theorem step_perm{S:List Row}{ky:Row->List Int}{ks:List (List Int)}(nd:ks.Nodup)(cov:∀ r∈S,ky r∈ks)(p:Int)(Q:List Int) :
  (ks.flatMap fun k=>Q.flatMap fun q=>(S.filter fun r=>decide (ky r=k)).map fun r=>giv r p q).Perm (S.flatMap fun r=>Q.map (giv r p)):=by
 have h1:(ks.flatMap fun k=>Q.flatMap fun q=>(S.filter fun r=>decide (ky r=k)).map fun r=>giv r p q).Perm (ks.flatMap fun k=>(S.filter fun r=>decide (ky r=k)).flatMap fun r=>Q.map (giv r p)):=flat_permF fun k _=>(swap_perm (fun r q=>giv r p q) Q _).symm
 refine h1.trans ?_
 have e:(ks.flatMap fun k=>(S.filter fun r=>decide (ky r=k)).flatMap fun r=>Q.map (giv r p))=(ks.flatMap fun k=>S.filter fun r=>decide (ky r=k)).flatMap fun r=>Q.map (giv r p):=by rw[List.flatMap_assoc]
 rw[e]
 exact flat_perm (parts_perm ky nd cov)
end Nar
namespace Flw
noncomputable abbrev Tie:=Int×Int×Int
section
variable{n:Nat}{ties:List Tie}{am:List Int}{turn:Int}{S:List Int}{tr:Tr}
variable{T:List Int}
inductive Rch(R:Int->Int->Prop)(S:List Int):Int->Prop
 |base {s}:s∈S->Rch R S s
 |step {p v}:Rch R S p->R p v->Rch R S v
end
open Classical
structure Parts(ties:List Tie)(x:Tie)(D:Int->Prop):Prop where
 one:D x.1↔¬ D x.2.1
 rest:∀ y∈ties,y≠x->(D y.1↔D y.2.1)
noncomputable def Joins(x:Tie)(u v:Int):Prop:=(x.1=u/\x.2.1=v)\/(x.2.1=u/\x.1=v)
noncomputable def Beside(ties:List Tie)(u v:Int):Prop:=∃ x∈ties,Joins x u v
structure Tree(n:Nat)(ties:List Tie):Prop where
 cut:∀ x∈ties,∃ D:Int->Prop,Parts ties x D
 all:∀ u v:Int,0<=u->u<n->0<=v->v<n->Rch (Beside ties) [u] v
open Classical
section
variable{n:Nat}{ties:List Tie}{am:List Int}{b:Int}
theorem tree_in(T:Tree n ties){L:List Int}(b0:0<=b)(b1:b<n)(hb:b∈L)(inv:∀ z∈ties,(z.1∈L↔z.2.1∈L)){c:Int}(c0:0<=c)(c1:c<n):c∈L:=by
 have r:=T.all b c b0 b1 c0 c1
 clear c0 c1
 induction r with
 |base h=>rw[List.mem_singleton.mp h];exact hb
 |step _ st ih =>
  obtain⟨z,hz,j⟩:=st
  have i:=inv z hz
  rcases j with⟨f1,f2⟩ |⟨f1,f2⟩ <;> rw[f1,f2]at i
  ·exact i.mp ih
  ·exact i.mpr ih
end
end Flw
namespace Hng
open Nar (bes Tie)
noncomputable abbrev Ht:=Int×Int×Int
noncomputable def toTie(h:Ht):Tie:=if h.1<h.2.1 then(h.1,h.2.1,h.2.2)else(h.2.1,h.1,h.2.2)
structure Hang(n:Nat)(ties:List Tie)(L:List Ht):Prop where
 n1:1<=n
 nd:(0 :: L.map (·.1)).Nodup
 rg:∀ h∈L,0<=h.1/\h.1<n
 up:∀ (i:Nat) (h:i<L.length),L[i].2.1∈0 :: (L.take i).map (·.1)
 tie:ties.Perm (L.map toTie)
 len:L.length+1=n
theorem perm_sub{α:Type}[DecidableEq α]:∀ {l m:List α},l.Nodup->(∀ x∈l,x∈m)->m.length<=l.length->l.Perm m
 |[],m,_,_,h=>by
  have:m=[]:=List.length_eq_zero_iff.mp (Nat.le_zero.mp h)
  rw[this]
 |a :: l,m,nd,sub,h=>by
  rw[List.nodup_cons]at nd
  have ha:=sub a (List.mem_cons_self ..)
  have p:=List.perm_cons_erase ha
  have ih:=perm_sub (l:=l) (m:=m.erase a) nd.2 (fun x hx=>(List.mem_erase_of_ne (fun(e:x=a)=>nd.1 (e▸hx))).mpr (sub x (List.mem_cons_of_mem _ hx))) (by
   rw[List.length_erase_of_mem ha]
   have:=List.length_pos_of_mem ha
   rw[List.length_cons]at h
   omega)
  exact(List.Perm.cons a ih).trans p.symm
theorem fst_inj{L:List Ht}(nd:(L.map (·.1)).Nodup){i j:Nat}(hi:i<L.length)(hj:j<L.length)(e:L[i].1=L[j].1):i=j:=by
 have h1:(L.map (·.1))[i]'(by rw[List.length_map];exact hi)=(L.map (·.1))[j]'(by rw[List.length_map];exact hj):=by rw[List.getElem_map,List.getElem_map];exact e
 exact(List.getElem_inj nd).mp h1
theorem nd_all{n:Nat}{l:List Int}(nd:l.Nodup)(rg:∀ x∈l,0<=x/\x<n)(len:l.length=n){v:Int}(v0:0<=v)(v1:v<n):v∈l:=by
 have h1:l.Perm ((List.range n).map fun(i:Nat)=>(i:Int)):=by
  have sub:∀ x∈l,x∈(List.range n).map fun(i:Nat)=>(i:Int):=fun x hx=>by
   have:=rg x hx
   exact List.mem_map.mpr ⟨x.toNat,List.mem_range.mpr (by omega),by lia⟩
  exact perm_sub nd sub (by rw[List.length_map,List.length_range,len];exact Nat.le_refl _)
 exact h1.mem_iff.mpr (List.mem_map.mpr ⟨v.toNat,List.mem_range.mpr (by lia),by lia⟩)
section
variable{n:Nat}{ties:List Tie}{L:List Ht}
theorem Hang.all(H:Hang n ties L){v:Int}(v0:0<=v)(v1:v<n):v∈0 :: L.map (·.1):=by
 have n1:=H.n1
 refine nd_all H.nd (fun x hx=>?_) (by rw[List.length_cons,List.length_map];exact H.len) v0 v1
 rcases List.mem_cons.mp hx with e | hx
 ·lia
 ·obtain⟨h,hh,rfl⟩:=List.mem_map.mp hx
  exact H.rg h hh
theorem Hang.ne(H:Hang n ties L){h:Ht}(hh:h∈L):h.1≠0/\h.1≠h.2.1/\h.2.1∈0 :: L.map (·.1):=by
 obtain⟨i,hi,rfl⟩:=List.getElem_of_mem hh
 have nd:=H.nd
 rw[List.nodup_cons]at nd
 have c0:L[i].1≠0:=fun z=>nd.1 (z▸List.mem_map.mpr ⟨_,hh,rfl⟩)
 have up:=H.up i hi
 refine⟨c0,fun z=>?_,?_⟩
 ·rcases List.mem_cons.mp up with e | e
  ·exact c0 (z.trans e)
  ·obtain⟨g,hg,eg⟩:=List.mem_map.mp e
   obtain⟨j,hj,rfl⟩:=List.getElem_of_mem hg
   rw[List.length_take]at hj
   rw[List.getElem_take]at eg
   have:=fst_inj nd.2 (i:=j) (j:=i) (by lia) hi (by rw[eg,z])
   lia
 ·rcases List.mem_cons.mp up with e | e
  ·rw[e];exact List.mem_cons_self ..
  ·obtain⟨g,hg,eg⟩:=List.mem_map.mp e
   rw[<- eg]
   exact List.mem_cons_of_mem _ (List.mem_map.mpr ⟨g,List.mem_of_mem_take hg,rfl⟩)
noncomputable def kids(L:List Ht)(v:Int):List (Int×Int):=(L.filter fun h=>decide (h.2.1=v)).map fun h=>(h.1,h.2.2)
noncomputable def ups(L:List Ht)(v:Int):List (Int×Int):=(L.filter fun h=>decide (h.1=v)).map fun h=>(h.2.1,h.2.2)
theorem bes_perm{t t':List Tie}(p:t.Perm t')(v:Int):(bes t v).Perm (bes t' v):=by
 unfold bes
 exact List.Perm.flatMap_right _ p
theorem bes_hang{L:List Ht}(ne:∀ h∈L,h.1≠h.2.1)(v:Int):(bes (L.map toTie) v).Perm (ups L v++kids L v):=by
 induction L with
 |nil=>exact .nil
 |cons h L ih =>
  have ih:=ih fun g hg=>ne g (List.mem_cons_of_mem _ hg)
  have hn:=ne h (List.mem_cons_self ..)
  have e0:bes ((h :: L).map toTie) v=(if(toTie h).1=v then [((toTie h).2.1,(toTie h).2.2)]else if(toTie h).2.1=v then [((toTie h).1,(toTie h).2.2)]else [])++bes (L.map toTie) v:=rfl
  rw[e0]
  have eu:ups (h :: L) v=(if h.1=v then [(h.2.1,h.2.2)]else [])++ups L v:=by
   unfold ups
   rw[List.filter_cons]
   by_cases z:h.1=v
   ·rw[if_pos (decide_eq_true z),if_pos z];rfl
   ·rw[if_neg (fun w=>z (of_decide_eq_true w)),if_neg z];rfl
  have ek:kids (h :: L) v=(if h.2.1=v then [(h.1,h.2.2)]else [])++kids L v:=by
   unfold kids
   rw[List.filter_cons]
   by_cases z:h.2.1=v
   ·rw[if_pos (decide_eq_true z),if_pos z];rfl
   ·rw[if_neg (fun w=>z (of_decide_eq_true w)),if_neg z];rfl
  rw[eu,ek]
  have et:(if(toTie h).1=v then [((toTie h).2.1,(toTie h).2.2)]else if(toTie h).2.1=v then [((toTie h).1,(toTie h).2.2)]else [])=(if h.1=v then [(h.2.1,h.2.2)]else [])++(if h.2.1=v then [(h.1,h.2.2)]else []):=by
   unfold toTie
   by_cases lt:h.1<h.2.1
   ·rw[if_pos lt]
    show(if h.1=v then [(h.2.1,h.2.2)]else if h.2.1=v then [(h.1,h.2.2)]else [])=_
    by_cases z:h.1=v
    ·rw[if_pos z,if_pos z,if_neg (fun w=>hn (by rw[z,w]))];rfl
    ·rw[if_neg z,if_neg z];rfl
   ·rw[if_neg lt]
    show(if h.2.1=v then [(h.1,h.2.2)]else if h.1=v then [(h.2.1,h.2.2)]else [])=_
    by_cases z:h.1=v
    ·have w:¬ h.2.1=v:=fun w=>hn (by rw[z,w])
     rw[if_neg w,if_pos z,if_neg w];rfl
    ·rw[if_neg z];rfl
  rw[et]
  generalize (if h.1=v then [(h.2.1,h.2.2)]else [])=A
  generalize (if h.2.1=v then [(h.1,h.2.2)]else [])=B
  rw[List.append_assoc,List.append_assoc]
  refine List.Perm.append_left A ?_
  refine(List.Perm.append_left B ih).trans ?_
  rw[<- List.append_assoc,<- List.append_assoc]
  exact List.Perm.append_right _ List.perm_append_comm
theorem Hang.bes(H:Hang n ties L)(v:Int):(bes ties v).Perm (ups L v++kids L v):=(bes_perm H.tie v).trans (bes_hang (fun h hh=>(H.ne hh).2.1) v)
theorem Hang.one(H:Hang n ties L){g h:Ht}(hg:g∈L)(hh:h∈L)(e:g.1=h.1):g=h:=by
 have nd:=H.nd
 rw[List.nodup_cons]at nd
 obtain⟨i,hi,rfl⟩:=List.getElem_of_mem hg
 obtain⟨j,hj,rfl⟩:=List.getElem_of_mem hh
 have:=fst_inj nd.2 hi hj e
 subst this
 rfl
theorem toTie_eq{g h:Ht}(e:toTie g=toTie h):g=h\/(g.1=h.2.1/\g.2.1=h.1/\g.2.2=h.2.2):=by
 obtain⟨a,b,c⟩:=g
 obtain⟨a',b',c'⟩:=h
 unfold toTie at e
 show _\/(a=b'/\b=a'/\c=c')
 have e:(if a<b then(a,b,c)else(b,a,c))=(if a'<b' then(a',b',c')else(b',a',c')):=e
 split at e <;> split at e <;> (simp only[Prod.mk.injEq]at e ⊢;lia)
end
open Nar (bes Tie)
theorem le_sub{α:Type}[DecidableEq α]:∀ {l m:List α},l.Nodup->(∀ x∈l,x∈m)->l.length<=m.length
 |[],_,_,_=>Nat.zero_le _
 |f :: l,m,nd,h=>by
  rw[List.nodup_cons]at nd
  have hf:=h f (List.mem_cons_self ..)
  have:=le_sub (m:=m.erase f) nd.2 fun g hg=>(List.mem_erase_of_ne (fun(e:g=f)=>nd.1 (by rw[<- e];exact hg))).mpr (h g (List.mem_cons_of_mem _ hg))
  rw[List.length_erase_of_mem hf]at this
  have p:=List.length_pos_of_mem hf
  rw[List.length_cons]
  omega
structure Part(n:Nat)(ties:List Tie)(L:List Ht):Prop where
 nd:(0 :: L.map (·.1)).Nodup
 rg:∀ h∈L,0<=h.1/\h.1<n
 up:∀ (i:Nat) (h:i<L.length),L[i].2.1∈0 :: (L.take i).map (·.1)
 sub:∀ h∈L,toTie h∈ties
 ndt:(L.map toTie).Nodup
section
variable{n:Nat}{ties:List Tie}
theorem Part.put{L:List Ht}{h:Ht}(P:Part n ties L)(h0:0<=h.1)(h1:h.1<n)(new:h.1∉0 :: L.map (·.1))(old:h.2.1∈0 :: L.map (·.1))(ht:toTie h∈ties):Part n ties (L++[h]):=by
 have both:∀ g∈L,g.1∈0 :: L.map (·.1)/\g.2.1∈0 :: L.map (·.1):=fun g hg=>by
  refine⟨List.mem_cons_of_mem _ (List.mem_map.mpr ⟨g,hg,rfl⟩),?_⟩
  obtain⟨i,hi,rfl⟩:=List.getElem_of_mem hg
  rcases List.mem_cons.mp (P.up i hi)with e | e
  ·rw[e];exact List.mem_cons_self ..
  ·obtain⟨f,hf,ef⟩:=List.mem_map.mp e
   rw[<- ef]
   exact List.mem_cons_of_mem _ (List.mem_map.mpr ⟨f,List.mem_of_mem_take hf,rfl⟩)
 refine⟨?_,fun g hg=>?_,fun i hi=>?_,fun g hg=>?_,?_⟩
 ·rw[List.map_append,<- List.cons_append]
  refine List.nodup_append.mpr ⟨P.nd,List.pairwise_singleton _ _,fun a ha b hb e=>?_⟩
  have hb:b=h.1:=by simpa using hb
  exact new (by rw[<- hb,<- e];exact ha)
 ·rcases List.mem_append.mp hg with hg | hg
  ·exact P.rg g hg
  ·rw[List.mem_singleton.mp hg];exact⟨h0,h1⟩
 ·by_cases z:i<L.length
  ·rw[List.getElem_append_left z,List.take_append_of_le_length (by lia)]
   exact P.up i z
  ·have ei:i=L.length:=by rw[List.length_append,List.length_singleton]at hi;lia
   subst ei
   rw[List.getElem_append_right (Nat.le_refl _),List.take_left']
   ·simp only[Nat.sub_self,List.getElem_cons_zero]
    exact old
   ·rfl
 ·rcases List.mem_append.mp hg with hg | hg
  ·exact P.sub g hg
  ·rw[List.mem_singleton.mp hg];exact ht
 ·rw[List.map_append]
  refine List.nodup_append.mpr ⟨P.ndt,List.pairwise_singleton _ _,fun a ha b hb e=>?_⟩
  have hb:b=toTie h:=by simpa using hb
  obtain⟨g,hg,eg⟩:=List.mem_map.mp ha
  have bg:=both g hg
  rw[hb,<- eg]at e
  rcases toTie_eq e with z |⟨z1,z2,_⟩
  ·rw[z]at bg;exact new bg.1
  ·rw[z2]at bg;exact new bg.2
theorem Part.hang{L:List Ht}(P:Part n ties L)(n1:1<=n)(nt:ties.Nodup)(len:ties.length+1=n)(ll:L.length+1=n):Hang n ties L :=
 ⟨n1,P.nd,P.rg,P.up,(perm_sub P.ndt (fun x hx=>by obtain⟨h,hh,rfl⟩:=List.mem_map.mp hx;exact P.sub h hh) (by rw[List.length_map];lia)).symm,ll⟩
theorem leads(T:Flw.Tree n ties){S:List Int}(h0:(0:Int)∈S)(n1:1<=n)(sl:S.length<n):∃ z∈ties,¬(z.1∈S↔z.2.1∈S):=by
 apply Classical.byContradiction
 intro no
 have inv:∀ z∈ties,(z.1∈S↔z.2.1∈S):=fun z hz=>Classical.byContradiction fun y=>no ⟨z,hz,y⟩
 have all:∀ x∈(List.range n).map (fun(i:Nat)=>(i:Int)),x∈S:=fun x hx=>by
  obtain⟨i,hi,rfl⟩:=List.mem_map.mp hx
  have:=List.mem_range.mp hi
  exact Flw.tree_in T (b:=0) (by lia) (by lia) h0 inv (by lia) (by lia)
 have:=le_sub (List.Pairwise.map _ (fun a b ne e=>ne (by lia)) List.nodup_range) all
 rw[List.length_map,List.length_range]at this
 lia
theorem tie_put(ok:∀ x∈ties,0<=x.1/\x.1<x.2.1/\x.2.1<n){L:List Ht}(P:Part n ties L){z:Tie}(hz:z∈ties) :
  (z.1∈0 :: L.map (·.1)->z.2.1∉0 :: L.map (·.1)->Part n ties (L++[(z.2.1,z.1,z.2.2)]))/\(z.1∉0 :: L.map (·.1)->z.2.1∈0 :: L.map (·.1)->Part n ties (L++[(z.1,z.2.1,z.2.2)])):=by
 obtain⟨o1,o2,o3⟩:=ok z hz
 refine⟨fun a b=>P.put (by show 0<=z.2.1;lia) o3 b a ?_,fun a b=>P.put o1 (by show z.1<n;lia) a b ?_⟩
 ·have:toTie (z.2.1,z.1,z.2.2)=z:=by
   unfold toTie
   rw[if_neg (show ¬ z.2.1<z.1 by lia)]
  rw[this];exact hz
 ·have:toTie (z.1,z.2.1,z.2.2)=z:=by
   unfold toTie
   rw[if_pos (show z.1<z.2.1 from o2)]
  rw[this];exact hz
theorem hang_ex(n1:1<=n)(T:Flw.Tree n ties)(ok:∀ x∈ties,0<=x.1/\x.1<x.2.1/\x.2.1<n)(nt:ties.Nodup)(len:ties.length+1=n):∃ L,Hang n ties L:=by
 have key:∀ k,k+1<=n->∃ L,Part n ties L/\L.length=k:=by
  intro k
  induction k with
  |zero=>exact fun _=>⟨[],⟨List.pairwise_singleton _ _,(fun _ h=>nomatch h),(fun _ h=>absurd h (Nat.not_lt_zero _)),(fun _ h=>nomatch h),List.Pairwise.nil⟩,rfl⟩
  |succ k ih =>
   intro hk
   obtain⟨L,P,ll⟩:=ih (by lia)
   obtain⟨z,hz,cr⟩:=leads T (S:=0 :: L.map (·.1)) (List.mem_cons_self ..) n1 (by rw[List.length_cons,List.length_map];lia)
   obtain⟨p1,p2⟩:=tie_put ok P hz
   by_cases a:z.1∈0 :: L.map (·.1)
   ·exact⟨_,p1 a (fun b=>cr ⟨fun _=>b,fun _=>a⟩),by rw[List.length_append,ll];rfl⟩
   ·by_cases b:z.2.1∈0 :: L.map (·.1)
    ·exact⟨_,p2 a b,by rw[List.length_append,ll];rfl⟩
    ·exact absurd ⟨fun h=>absurd h a,fun h=>absurd h b⟩ cr
 obtain⟨L,P,ll⟩:=key (n-1) (by lia)
 exact⟨L,P.hang n1 nt len (by lia)⟩
structure Met(L:List Ht)(D W:List Int):Prop where
 nd:(D++W).Nodup
 zero:(0:Int)∈D++W
 up:∀ (i:Nat) (h:i<D.length),D[i]=0\/∃ g∈L,g.1=D[i]/\g.2.1∈D.take i
 wup:∀ x∈W,x=0\/∃ g∈L,g.1=x/\g.2.1∈D
 down:∀ g∈L,g.2.1∈D->g.1∈D++W
theorem met_start(L:List Ht):Met L [] [0] :=
 ⟨List.pairwise_singleton _ _,List.mem_singleton.mpr rfl,(fun _ h=>absurd h (Nat.not_lt_zero _)),fun x hx=>.inl (by simpa using hx),(fun _ _ h=>nomatch h)⟩
variable{L:List Ht}
theorem met_kids(H:Hang n ties L){D W:List Int}{v:Int}(M:Met L D (W++[v])):((bes ties v).filter fun x=>decide (x.1∉D)).Perm (kids L v):=by
 have p:=(H.bes v).filter fun x=>decide (x.1∉D)
 refine p.trans ?_
 rw[List.filter_append]
 have vD:v∉D:=fun z=>by
  have:=(List.nodup_append.mp M.nd).2.2 v z v (List.mem_append_right _ (List.mem_singleton.mpr rfl))
  exact this rfl
 have e1:(ups L v).filter (fun x=>decide (x.1∉D))=[]:=by
  rw[List.filter_eq_nil_iff]
  intro x hx y
  have y:=of_decide_eq_true y
  obtain⟨g,hg,rfl⟩:=List.mem_map.mp hx
  obtain⟨hg,eg⟩:=List.mem_filter.mp hg
  have eg:=of_decide_eq_true eg
  rcases M.wup v (List.mem_append_right _ (List.mem_singleton.mpr rfl))with z |⟨g',hg',e',u'⟩
  ·exact(H.ne hg).1 (eg.trans z)
  ·rw[H.one hg hg' (by rw[eg,e'])]at y
   exact y u'
 have e2:(kids L v).filter (fun x=>decide (x.1∉D))=kids L v:=by
  rw[List.filter_eq_self]
  intro x hx
  obtain⟨g,hg,rfl⟩:=List.mem_map.mp hx
  obtain⟨hg,eg⟩:=List.mem_filter.mp hg
  have eg:=of_decide_eq_true eg
  refine decide_eq_true fun z=>?_
  obtain⟨i,hi,ei⟩:=List.getElem_of_mem z
  have ei:D[i]=g.1:=ei
  rcases M.up i hi with y |⟨g',hg',e',u'⟩
  ·exact(H.ne hg).1 (by rw[<- ei,y])
  ·rw[H.one hg' hg (by rw[e',ei]),eg]at u'
   exact vD (List.mem_of_mem_take u')
 rw[e1,e2,List.nil_append]
theorem met_step(H:Hang n ties L){D W K:List Int}{v:Int}(M:Met L D (W++[v]))(hK:K.Perm ((kids L v).map (·.1))):Met L (D++[v]) (W++K):=by
 have vD:v∉D:=fun z=>by
  have:=(List.nodup_append.mp M.nd).2.2 v z v (List.mem_append_right _ (List.mem_singleton.mpr rfl))
  exact this rfl
 have mK:∀ x,x∈K↔∃ g∈L,g.1=x/\g.2.1=v:=fun x=>by
  rw[hK.mem_iff,List.mem_map]
  constructor
  ·rintro⟨y,hy,rfl⟩
   obtain⟨g,hg,rfl⟩:=List.mem_map.mp hy
   obtain⟨hg,eg⟩:=List.mem_filter.mp hg
   exact⟨g,hg,rfl,of_decide_eq_true eg⟩
  ·rintro⟨g,hg,rfl,e⟩
   exact⟨(g.1,g.2.2),List.mem_map.mpr ⟨g,List.mem_filter.mpr ⟨hg,decide_eq_true e⟩,rfl⟩,rfl⟩
 have ndL:=H.nd
 rw[List.nodup_cons]at ndL
 have kn:K.Nodup:=by
  refine hK.nodup_iff.mpr ?_
  unfold kids
  rw[List.map_map]
  exact List.Pairwise.sublist (List.Sublist.map _ List.filter_sublist) ndL.2
 have perm:(D++[v]++(W++K)).Perm (D++(W++[v])++K):=by
  rw[List.append_assoc,List.append_assoc,List.append_assoc]
  refine List.Perm.append_left D ?_
  rw[<- List.append_assoc,<- List.append_assoc]
  exact List.Perm.append_right K List.perm_append_comm
 have old:∀ x,x∈D++(W++[v])->x=0\/∃ g∈L,g.1=x/\g.2.1∈D:=fun x hx=>by
  rcases List.mem_append.mp hx with hx | hx
  ·obtain⟨i,hi,rfl⟩:=List.getElem_of_mem hx
   rcases M.up i hi with z |⟨g,hg,e,u⟩
   ·exact .inl z
   ·exact .inr ⟨g,hg,e,List.mem_of_mem_take u⟩
  ·exact M.wup x hx
 refine⟨perm.nodup_iff.mpr (List.nodup_append.mpr ⟨M.nd,kn,fun a ha b hb e=>?_⟩),perm.mem_iff.mpr (List.mem_append_left _ M.zero),fun i hi=>?_,fun x hx=>?_,fun g hg hu=>?_⟩
 ·obtain⟨g,hg,eb,ev⟩:=(mK b).mp hb
  rcases old a ha with z |⟨g',hg',ea,u⟩
  ·exact(H.ne hg).1 (by rw[eb,<- e,z])
  ·rw[H.one hg' hg (by rw[ea,eb,e]),ev]at u
   exact vD u
 ·by_cases z:i<D.length
  ·rw[List.getElem_append_left z,List.take_append_of_le_length (by lia)]
   exact M.up i z
  ·have ei:i=D.length:=by rw[List.length_append,List.length_singleton]at hi;lia
   subst ei
   rw[List.getElem_append_right (Nat.le_refl _),List.take_left' rfl]
   simp only[Nat.sub_self,List.getElem_cons_zero]
   exact M.wup v (List.mem_append_right _ (List.mem_singleton.mpr rfl))
 ·rcases List.mem_append.mp hx with hx | hx
  ·rcases M.wup x (List.mem_append_left _ hx)with z |⟨g,hg,e,u⟩
   ·exact .inl z
   ·exact .inr ⟨g,hg,e,List.mem_append_left _ u⟩
  ·obtain⟨g,hg,e,ev⟩:=(mK x).mp hx
   exact .inr ⟨g,hg,e,List.mem_append_right _ (List.mem_singleton.mpr ev)⟩
 ·refine perm.mem_iff.mpr ?_
  rcases List.mem_append.mp hu with hu | hu
  ·exact List.mem_append_left _ (M.down g hg hu)
  ·exact List.mem_append_right _ ((mK _).mpr ⟨g,hg,rfl,List.mem_singleton.mp hu⟩)
theorem met_len(H:Hang n ties L){D W:List Int}(M:Met L D W):(D++W).length<=n/\∀ x∈D++W,0<=x/\x<n:=by
 have n1:=H.n1
 have rg:∀ x∈D++W,x∈0 :: L.map (·.1):=fun x hx=>by
  have:x=0\/∃ g∈L,g.1=x:=by
   rcases List.mem_append.mp hx with hx | hx
   ·obtain⟨i,hi,rfl⟩:=List.getElem_of_mem hx
    rcases M.up i hi with z |⟨g,hg,e,u⟩
    ·exact .inl z
    ·exact .inr ⟨g,hg,e⟩
   ·rcases M.wup x hx with z |⟨g,hg,e,u⟩
    ·exact .inl z
    ·exact .inr ⟨g,hg,e⟩
  rcases this with z |⟨g,hg,e⟩
  ·rw[z];exact List.mem_cons_self ..
  ·exact List.mem_cons_of_mem _ (List.mem_map.mpr ⟨g,hg,e⟩)
 refine⟨?_,fun x hx=>?_⟩
 ·have:=le_sub M.nd rg
  rw[List.length_cons,List.length_map,H.len]at this
  exact this
 ·rcases List.mem_cons.mp (rg x hx)with e | e
  ·lia
  ·obtain⟨g,hg,rfl⟩:=List.mem_map.mp e
   exact H.rg g hg
theorem met_end(H:Hang n ties L){D:List Int}(M:Met L D []):D.Nodup/\D.length=n/\(∀ x∈D,0<=x/\x<n)/\(0:Int)∈D:=by
 have nd:=M.nd
 have z0:=M.zero
 obtain⟨ln,rg⟩:=met_len H M
 rw[List.append_nil]at nd z0 ln rg
 have all:∀ (m i:Nat) (hi:i<L.length),i<m->L[i].1∈D:=by
  intro m
  induction m with
  |zero=>intro i hi z;lia
  |succ m ih =>
   intro i hi im
   have:L[i].2.1∈D:=by
    rcases List.mem_cons.mp (H.up i hi)with e | e
    ·rw[e];exact z0
    ·obtain⟨g,hg,eg⟩:=List.mem_map.mp e
     obtain⟨j,hj,rfl⟩:=List.getElem_of_mem hg
     rw[List.length_take]at hj
     rw[List.getElem_take]at eg
     rw[<- eg]
     exact ih j (by lia) (by lia)
   have:=M.down _ (List.getElem_mem hi) this
   rw[List.append_nil]at this
   exact this
 have ge:=le_sub H.nd (m:=D) fun x hx=>by
  rcases List.mem_cons.mp hx with e | e
  ·rw[e];exact z0
  ·obtain⟨g,hg,rfl⟩:=List.mem_map.mp e
   obtain⟨i,hi,rfl⟩:=List.getElem_of_mem hg
   exact all (i+1) i hi (by lia)
 rw[List.length_cons,List.length_map,H.len]at ge
 exact⟨nd,by lia,rg,z0⟩
end
end Hng
namespace K45
open PySem L2 PyProof.Rows
open Flw (Beside Joins Parts Tree)
theorem rch_trans{R:Int->Int->Prop}{u v w:Int}(h1:Flw.Rch R [u] v)(h2:Flw.Rch R [v] w):Flw.Rch R [u] w:=by
 induction h2 with
 |base h=>rw[List.mem_singleton.mp h];exact h1
 |step _ r ih=>exact .step ih r
theorem rch_sym{R:Int->Int->Prop}(sy:∀ p v,R p v->R v p){u v:Int}(h:Flw.Rch R [u] v):Flw.Rch R [v] u:=by
 induction h with
 |base h=>rw[List.mem_singleton.mp h];exact .base (List.mem_singleton.mpr rfl)
 |step _ r ih=>exact rch_trans (.step (.base (List.mem_singleton.mpr rfl)) (sy _ _ r)) ih
theorem beside_sym{ts:List Tie}(p v:Int)(h:Beside ts p v):Beside ts v p:=by
 obtain⟨x,hx,j⟩:=h
 exact⟨x,hx,j.elim (fun z=>.inr ⟨z.2,z.1⟩) fun z=>.inl ⟨z.2,z.1⟩⟩
inductive Dn(ns:List Int)(ts:List Tie)(i:Nat):Int->Prop
 |base {b}:ns[i+1]?=some b->Dn ns ts i b
 |step {k j a b x}:Dn ns ts i a->ts[k]?=some x->j<=k->ns[j]?=some a->ns[k+1]?=some b->((x.1=a/\x.2.1=b)\/(x.1=b/\x.2.1=a))->Dn ns ts i b
theorem Dn.low{ns:List Int}{ts:List Tie}{i:Nat}{c:Int}(nd:ns.Nodup)(h:Dn ns ts i c):∃ m,i+1<=m/\ns[m]?=some c:=by
 induction h with
 |base e=>exact⟨_,Nat.le_refl _,e⟩
 | @step k j a b x _ _ jk ga gb _ ih =>
  obtain⟨m,h1,h2⟩:=ih
  have:=nd_at nd h2 ga
  exact⟨k+1,by lia,gb⟩
theorem tree_of{ns:List Int}{ts:List Tie}{n:Nat}(pm:ns.Perm (upto n))(hg:Hg ns ts)(l:ts.length+1=n):Tree n ts:=by
 have nd:ns.Nodup:=pm.nodup_iff.mpr (upto_nodup n)
 have nl:ns.length=n:=by rw[pm.length_eq,upto_length]
 refine⟨fun x hx=>?_,?_⟩
 ·obtain⟨i,hi,ex⟩:=List.getElem_of_mem hx
  have gx:ts[i]?=some x:=by rw[List.getElem?_eq_getElem hi,ex]
  obtain⟨j,a,b,ji,ga,gb,e⟩:=hg i x gx
  have db:Dn ns ts i b:=.base gb
  have da:¬ Dn ns ts i a:=fun z=>by
   obtain⟨m,h1,h2⟩:=z.low nd
   have:=nd_at nd h2 ga
   lia
  refine⟨Dn ns ts i,?_,fun y hy ne=>?_⟩
  ·rcases e with⟨e1,e2⟩ |⟨e1,e2⟩ <;> rw[e1,e2]
   ·exact⟨fun z=>absurd z da,fun z=>absurd db z⟩
   ·exact⟨fun _=>da,fun _=>db⟩
  ·obtain⟨k,hk,ey⟩:=List.getElem_of_mem hy
   have gy:ts[k]?=some y:=by rw[List.getElem?_eq_getElem hk,ey]
   obtain⟨j',a',b',jk,ga',gb',e'⟩:=hg k y gy
   have up:Dn ns ts i a'->Dn ns ts i b':=fun z=>.step z gy jk ga' gb' e'
   have down:Dn ns ts i b'->Dn ns ts i a':=fun z=>by
    cases z with
    |base h =>
     have:=nd_at nd h gb'
     have ki:k=i:=by lia
     subst ki
     rw[gx]at gy
     cases gy
     exact absurd rfl ne
    | @step k2 j2 a2 _ x2 d gx2 jk2 ga2 gb2 e2 =>
     have:=nd_at nd gb2 gb'
     have kk:k2=k:=by lia
     subst kk
     rw[gy]at gx2
     cases gx2
     have ea:a2=a':=by
      rcases e' with⟨f1,f2⟩ |⟨f1,f2⟩ <;> rcases e2 with⟨g1,g2⟩ |⟨g1,g2⟩ <;> lia
     rw[<- ea];exact d
   rcases e' with⟨f1,f2⟩ |⟨f1,f2⟩ <;> rw[f1,f2]
   ·exact⟨up,down⟩
   ·exact⟨down,up⟩
 ·have h0:0<ns.length:=by lia
  have fr:∀ (m:Nat) (c:Int),ns[m]?=some c->Flw.Rch (Beside ts) [ns[0]] c:=by
   intro m
   induction m using Nat.strongRecOn with
   |ind m ih =>
    intro c hc
    cases m with
    |zero =>
     rw[List.getElem?_eq_getElem h0]at hc
     cases hc
     exact .base (List.mem_singleton.mpr rfl)
    |succ k =>
     have hk:k<ts.length:=by
      have:=(List.getElem?_eq_some_iff.mp hc).1
      lia
     obtain⟨j,a,b,jk,ga,gb,e⟩:=hg k _ (List.getElem?_eq_getElem hk)
     rw[hc]at gb
     cases gb
     refine .step (ih j (by lia) a ga) ⟨_,List.getElem_mem hk,?_⟩
     rcases e with⟨f1,f2⟩ |⟨f1,f2⟩
     ·exact .inl ⟨f1,f2⟩
     ·exact .inr ⟨f2,f1⟩
  have all:∀ c:Int,0<=c->c<n->Flw.Rch (Beside ts) [ns[0]] c:=fun c c0 c1=>by
   obtain⟨m,hm,e⟩:=List.getElem_of_mem (pm.mem_iff.mpr (mem_upto.mpr ⟨c0,c1⟩))
   exact fr m c (by rw[List.getElem?_eq_getElem hm,e])
  exact fun u v u0 u1 v0 v1=>rch_trans (rch_sym beside_sym (all u u0 u1)) (all v v0 v1)
theorem TreeAs.tree{n:Nat}{ties:List Tie}(h:TreeAs n ties):Tree n ties:=by
 obtain⟨ns,ts,pm,hg,l,p⟩:=h
 obtain⟨c,a⟩:=tree_of pm hg l
 refine⟨fun x hx=>?_,fun u v u0 u1 v0 v1=>?_⟩
 ·obtain⟨D,P⟩:=c x (p.mem_iff.mp hx)
  exact⟨D,P.one,fun y hy=>P.rest y (p.mem_iff.mp hy)⟩
 ·have:=a u v u0 u1 v0 v1
  clear v0 v1
  induction this with
  |base h=>exact .base h
  |step _ r ih =>
   obtain⟨x,hx,j⟩:=r
   exact .step ih ⟨x,p.mem_iff.mpr hx,j⟩
theorem tieLt_irr{x:Tie}:¬ tieLt x x:=fun h=>by
 unfold tieLt at h
 simp[Srt.lexlt]at h
theorem ties_nodup{ties:List Tie}(pw:ties.Pairwise tieLt):ties.Nodup:=List.Pairwise.imp (fun {a b} (h:tieLt a b) (e:a=b)=>tieLt_irr (x:=b) (by rw[e]at h;exact h)) pw
end K45
namespace Nar
open L2
noncomputable def ch(ps:List Int)(p:Int):List Int:=if p∈ps then [p]else ps
noncomputable def RL(n:Nat)(ps ord:List Int):Nat->List Row
 | 0=>[List.replicate n none]
 |i+1=>(RL n ps ord i).flatMap fun r=>(ch ps (ord.getD i 0)).map (giv r (ord.getD i 0))
noncomputable def ky(pl:List Int)(r:Row):List Int:=pl.map fun f=>(atR r f).getD 0
structure OrdN(n:Nat)(ord:List Int):Prop where
 nd:ord.Nodup
 len:ord.length=n
 rg:∀ p∈ord,0<=p/\p<n
structure InR(n:Nat)(ps ord:List Int)(i:Nat)(r:Row):Prop where
 len:r.length=n
 done:∀ p∈ord.take i,∃ q∈ch ps p,atR r p=some q
 free:∀ p:Int,0<=p->p<n->p∉ord.take i->r[p.toNat]?=some none
theorem OrdN.at{n:Nat}{ord:List Int}(o:OrdN n ord){i:Nat}(h:i<n):ord.getD i 0=ord[i]'(by rw[o.len];exact h)/\0<=ord.getD i 0/\ord.getD i 0<n/\ord.getD i 0∉ord.take i/\ord.take (i+1)=ord.take i++[ord.getD i 0]:=by
 have il:i<ord.length:=by rw[o.len];exact h
 have e:ord.getD i 0=ord[i]:=by rw[List.getD_eq_getElem?_getD,List.getElem?_eq_getElem il];rfl
 refine⟨e,?_⟩
 rw[e]
 refine⟨(o.rg _ (List.getElem_mem il)).1,(o.rg _ (List.getElem_mem il)).2,fun z=>?_,List.take_succ_eq_append_getElem il⟩
 obtain⟨j,hj,ej⟩:=List.getElem_of_mem z
 rw[List.length_take]at hj
 rw[List.getElem_take]at ej
 have:=(List.getElem_inj (h₀:=by omega) (h₁:=il) o.nd).mp ej
 omega
theorem none_at{r:Row}{p:Int}(h:r[p.toNat]?=some none):atR r p=none:=by unfold atR;rw[h];rfl
theorem InR.giv{n:Nat}{ps ord:List Int}{i:Nat}{r:Row}{q:Int}(o:OrdN n ord)(hi:i<n)(h:InR n ps ord i r)(hq:q∈ch ps (ord.getD i 0)):InR n ps ord (i+1) (giv r (ord.getD i 0) q):=by
 obtain⟨e,p0,p1,nm,tk⟩:=o.at hi
 have hl:(ord.getD i 0).toNat<r.length:=by rw[h.len];omega
 refine⟨by unfold Nar.giv;rw[List.length_set];exact h.len,fun p hp=>?_,fun p a0 a1 hp=>?_⟩
 ·rw[tk]at hp
  rcases List.mem_append.mp hp with hp | hp
  ·have ne:p.toNat≠(ord.getD i 0).toNat:=fun z=>by
    have:=(o.rg p (List.mem_of_mem_take hp)).1
    have e:p=ord.getD i 0:=by omega
    exact nm (e▸hp)
   rw[at_giv_ne ne]
   exact h.done p hp
  ·rw[List.mem_singleton.mp hp]
   exact⟨q,hq,at_giv hl⟩
 ·rw[tk,List.mem_append,List.mem_singleton,not_or]at hp
  unfold Nar.giv
  rw[List.getElem?_set_ne (fun z=>hp.2 (by omega))]
  exact h.free p a0 a1 hp.1
theorem rl_in{n:Nat}{ps ord:List Int}(o:OrdN n ord):∀ {i:Nat},i<=n->∀ r∈RL n ps ord i,InR n ps ord i r
 | 0,_,r,h=>by
  rw[List.mem_singleton.mp h]
  refine⟨List.length_replicate,fun p hp=>?_,fun p a0 a1 _=>?_⟩
  ·rw[List.take_zero]at hp;cases hp
  ·rw[List.getElem?_replicate,if_pos (by omega)]
 |i+1,hi,r,h=>by
  obtain⟨r0,h0,h1⟩:=List.mem_flatMap.mp h
  obtain⟨q,hq,rfl⟩:=List.mem_map.mp h1
  exact(rl_in o (by omega) r0 h0).giv o (by omega) hq
theorem in_like{n:Nat}{ps ord:List Int}{i:Nat}{r r':Row}(o:OrdN n ord)(h:InR n ps ord i r)(g:InR n ps ord i r'):LikeO r r':=by
 unfold LikeO
 apply List.ext_getElem
 ·rw[List.length_map,List.length_map,h.len,g.len]
 ·intro j h1 h2
  rw[List.length_map]at h1 h2
  rw[List.getElem_map,List.getElem_map]
  have jn:j<n:=by rw[<- h.len];exact h1
  by_cases m:(j:Int)∈ord.take i
  ·obtain⟨q,_,e⟩:=h.done _ m
   obtain⟨q',_,e'⟩:=g.done _ m
   unfold atR at e e'
   rw[Int.toNat_natCast,List.getElem?_eq_getElem h1]at e
   rw[Int.toNat_natCast,List.getElem?_eq_getElem h2]at e'
   have e:r[j]=some q:=e
   have e':r'[j]=some q':=e'
   rw[e,e']
   rfl
  ·have a:=h.free (j:Int) (by omega) (by omega) m
   have b:=g.free (j:Int) (by omega) (by omega) m
   rw[Int.toNat_natCast,List.getElem?_eq_getElem h1]at a
   rw[Int.toNat_natCast,List.getElem?_eq_getElem h2]at b
   injection a with a
   injection b with b
   rw[a,b]
structure OpN(n:Nat)(ties:List Tie)(ord:List Int)(op:Nat->List Int):Prop where
 sub:∀ i,i<n->∀ f∈op i,f∈ord.take (i+1)
 tie:∀ i,i+1<n->∀ f∈ord.take (i+1),(∃ x∈bes ties (ord.getD (i+1) 0),x.1=f)->f∈op i
 nxt:∀ i,i+1<n->∀ f∈op (i+1),f∈op i\/f=ord.getD (i+1) 0
 fin:∀ i,i+1=n->op i=[]
noncomputable def pl(op:Nat->List Int):Nat->List Int
 | 0=>[]
 |i+1=>op i
theorem ky_at{pl:List Int}{r r':Row}(h:ky pl r=ky pl r'){f:Int}(hf:f∈pl):(atR r f).getD 0=(atR r' f).getD 0:=by
 unfold ky at h
 exact List.map_inj_left.mp h f hf
theorem inc_same{n:Nat}{ties:List Tie}{ps ord:List Int}{op:Nat->List Int}{i:Nat}{r r':Row}(o:OrdN n ord)(O:OpN n ties ord op)(ok:∀ x∈ties,0<=x.1/\x.1<n/\0<=x.2.1/\x.2.1<n)(hi:i<n)(h:InR n ps ord i r)(g:InR n ps ord i r')(e:ky (pl op i) r=ky (pl op i) r')(q:Int):inc ties r (ord.getD i 0) q=inc ties r' (ord.getD i 0) q:=by
 unfold inc
 congr 1
 refine List.map_congr_left fun x hx=>?_
 have xr:0<=x.1/\x.1<n:=by
  unfold bes at hx
  obtain⟨t,ht,hx⟩:=List.mem_flatMap.mp hx
  obtain⟨t1,t2,t3,t4⟩:=ok t ht
  by_cases z:t.1=ord.getD i 0
  ·rw[if_pos z]at hx
   rw[List.mem_singleton.mp hx]
   exact⟨t3,t4⟩
  ·rw[if_neg z]at hx
   by_cases z2:t.2.1=ord.getD i 0
   ·rw[if_pos z2]at hx
    rw[List.mem_singleton.mp hx]
    exact⟨t1,t2⟩
   ·rw[if_neg z2]at hx
    cases hx
 have ea:atR r x.1=atR r' x.1:=by
  by_cases m:x.1∈ord.take i
  ·cases i with
   |zero=>rw[List.take_zero]at m;cases m
   |succ i =>
    have mo:x.1∈op i:=O.tie i hi x.1 m ⟨x,hx,rfl⟩
    have:=ky_at e mo
    obtain⟨a,_,ea⟩:=h.done _ m
    obtain⟨b,_,eb⟩:=g.done _ m
    rw[ea,eb]at this
    rw[ea,eb]
    exact congrArg some this
  ·rw[none_at (h.free _ xr.1 xr.2 m),none_at (g.free _ xr.1 xr.2 m)]
 unfold inO
 rw[ea]
theorem ky_next{n:Nat}{ties:List Tie}{ps ord:List Int}{op:Nat->List Int}{i:Nat}{r r':Row}(o:OrdN n ord)(O:OpN n ties ord op)(hi:i<n)(h:InR n ps ord i r)(g:InR n ps ord i r')(e:ky (pl op i) r=ky (pl op i) r')(q:Int):ky (op i) (giv r (ord.getD i 0) q)=ky (op i) (giv r' (ord.getD i 0) q):=by
 obtain⟨_,p0,p1,nm,tk⟩:=o.at hi
 unfold ky
 refine List.map_congr_left fun f hf=>?_
 by_cases z:f=ord.getD i 0
 ·rw[z,at_giv (by rw[h.len];omega),at_giv (by rw[g.len];omega)]
 ·have fm:f∈ord:=List.mem_of_mem_take (O.sub i hi f hf)
  have f0:=(o.rg f fm).1
  have ne:f.toNat≠(ord.getD i 0).toNat:=by omega
  rw[at_giv_ne ne,at_giv_ne ne]
  cases i with
  |zero =>
   have:=O.sub 0 hi f hf
   rw[tk,List.take_zero,List.nil_append]at this
   exact absurd (List.mem_singleton.mp this) z
  |succ i=>exact ky_at e ((O.nxt i hi f hf).resolve_right z)
end Nar
namespace Hng
open Nar (bes Tie ch)
structure Lst(l:List Int)(z:Int):Prop where
 mem:z∈l
 le:∀ y∈l,z<=y
theorem Lst.uniq{l:List Int}{y z:Int}(a:Lst l y)(b:Lst l z):y=z:=Int.le_antisymm (a.le z b.mem) (b.le y a.mem)
theorem Lst.of_mem{l l':List Int}{z:Int}(h:∀ x,x∈l↔x∈l')(a:Lst l z):Lst l' z:=⟨(h z).mp a.mem,fun y hy=>a.le y ((h y).mpr hy)⟩
noncomputable def mn:List Int->Int
 |[]=>0
 |[a]=>a
 |a :: b :: l=>if a<mn (b :: l)then a else mn (b :: l)
theorem mn_lst:∀ {l:List Int},l≠[]->Lst l (mn l)
 |[],h=>absurd rfl h
 |[a],_=>⟨List.mem_singleton.mpr rfl,fun y hy=>by rw[List.mem_singleton.mp hy];exact Int.le_refl _⟩
 |a :: b :: l,_=>by
  obtain⟨m,le⟩:=mn_lst (l:=b :: l) (by simp)
  unfold mn
  by_cases z:a<mn (b :: l)
  ·rw[if_pos z]
   refine⟨List.mem_cons_self ..,fun y hy=>?_⟩
   rcases List.mem_cons.mp hy with e | hy
   ·omega
   ·have:=le y hy;omega
  ·rw[if_neg z]
   refine⟨List.mem_cons_of_mem _ m,fun y hy=>?_⟩
   rcases List.mem_cons.mp hy with e | hy
   ·omega
   ·exact le y hy
theorem sum_perm{l l':List Int}(p:l.Perm l'):l.sum=l'.sum:=by
 induction p with
 |nil=>rfl
 |cons x _ ih=>rw[List.sum_cons,List.sum_cons,ih]
 |swap x y l=>rw[List.sum_cons,List.sum_cons,List.sum_cons,List.sum_cons];lia
 |trans _ _ a b=>exact a.trans b
noncomputable def opn(ps:List Int)(v q:Int):Prop:=v=q\/v∉ps
noncomputable instance (ps:List Int) (v q:Int):Decidable (opn ps v q):=by unfold opn;infer_instance
noncomputable def lo(ps:List Int)(row:List (Option Int))(q w:Int):List (Int×Int):=(ps.zip row).filterMap fun x=>x.2.map fun z=>(if x.1=q then z else z+w,x.1)
noncomputable def mv(ps:List Int)(row:List (Option Int))(q w:Int):Int:=mn ((lo ps row q w).map (·.1))
noncomputable def due(ps:List Int)(R:Int->List (Option Int))(ks:List (Int×Int))(q:Int):Int:=(ks.map fun x=>mv ps (R x.1) q x.2).sum
noncomputable def rowOf(ps:List Int)(R:Int->List (Option Int))(v:Int)(ks:List (Int×Int)):List (Option Int):=ps.map fun q=>if opn ps v q then some (due ps R ks q)else none
theorem due_perm{ps:List Int}{R:Int->List (Option Int)}{ks ks':List (Int×Int)}(p:ks.Perm ks')(q:Int):due ps R ks q=due ps R ks' q:=sum_perm (p.map _)
theorem row_perm{ps:List Int}{R:Int->List (Option Int)}{v:Int}{ks ks':List (Int×Int)}(p:ks.Perm ks'):rowOf ps R v ks=rowOf ps R v ks':=by
 unfold rowOf
 refine List.map_congr_left fun q _=>?_
 rw[due_perm p]
noncomputable def Tab(n:Nat)(ps:List Int)(L:List Ht)(R:Int->List (Option Int)):Prop:=∀ v:Int,0<=v->v<n->R v=rowOf ps R v (kids L v)
theorem mem_ch{ps:List Int}{v q:Int}:q∈ch ps v↔q∈ps/\opn ps v q:=by
 unfold ch opn
 by_cases z:v∈ps
 ·rw[if_pos z,List.mem_singleton]
  constructor
  ·intro e;rw[e];exact⟨z,.inl rfl⟩
  ·rintro⟨_,e | e⟩
   ·exact e.symm
   ·exact absurd z e
 ·rw[if_neg z]
  exact⟨fun h=>⟨h,.inr z⟩,fun h=>h.1⟩
theorem zip_self{α β:Type}{f:α->β}:∀ (l:List α),l.zip (l.map f)=l.map fun a=>(a,f a)
 |[]=>rfl
 |a :: l=>by rw[List.map_cons,List.zip_cons_cons,zip_self l];rfl
theorem lo_row{ps:List Int}{R:Int->List (Option Int)}{v q w:Int}{ks:List (Int×Int)}{y:Int×Int}:y∈lo ps (rowOf ps R v ks) q w↔y.2∈ch ps v/\y.1=if y.2=q then due ps R ks y.2 else due ps R ks y.2+w:=by
 unfold lo rowOf
 rw[zip_self,List.mem_filterMap]
 constructor
 ·rintro⟨x,hx,e⟩
  obtain⟨o,ho,rfl⟩:=List.mem_map.mp hx
  by_cases z:opn ps v o
  ·rw[if_pos z]at e
   have e:some (if o=q then due ps R ks o else due ps R ks o+w,o)=some y:=e
   injection e with e
   rw[<- e]
   exact⟨mem_ch.mpr ⟨ho,z⟩,rfl⟩
  ·rw[if_neg z]at e
   cases e
 ·rintro⟨h1,h2⟩
  obtain⟨ho,z⟩:=mem_ch.mp h1
  refine⟨_,List.mem_map.mpr ⟨y.2,ho,rfl⟩,?_⟩
  rw[if_pos z]
  show some (if y.2=q then due ps R ks y.2 else due ps R ks y.2+w,y.2)=some y
  rw[<- h2]
theorem ch_ne{ps:List Int}(h:ps≠[])(v:Int):∃ q,q∈ch ps v:=by
 unfold ch
 by_cases z:v∈ps
 ·rw[if_pos z];exact⟨v,List.mem_singleton.mpr rfl⟩
 ·rw[if_neg z]
  cases ps with
  |nil=>exact absurd rfl h
  |cons a l=>exact⟨a,List.mem_cons_self ..⟩
theorem lo_ne{ps:List Int}(h:ps≠[]){R:Int->List (Option Int)}{v q w:Int}{ks:List (Int×Int)}:lo ps (rowOf ps R v ks) q w≠[]:=fun z=>by
 obtain⟨o,ho⟩:=ch_ne h v
 have:(if o=q then due ps R ks o else due ps R ks o+w,o)∈lo ps (rowOf ps R v ks) q w:=lo_row.mpr ⟨ho,rfl⟩
 rw[z]at this
 cases this
theorem mv_lst{ps:List Int}(h:ps≠[]){R:Int->List (Option Int)}{v q w:Int}{ks:List (Int×Int)}:Lst ((ch ps v).map fun o=>if o=q then due ps R ks o else due ps R ks o+w) (mv ps (rowOf ps R v ks) q w):=by
 refine Lst.of_mem (fun x=>?_) (mn_lst (l:=(lo ps (rowOf ps R v ks) q w).map (·.1)) (fun z=>lo_ne h (List.map_eq_nil_iff.mp z)))
 rw[List.mem_map,List.mem_map]
 constructor
 ·rintro⟨y,hy,rfl⟩
  obtain⟨h1,h2⟩:=lo_row.mp hy
  exact⟨y.2,h1,h2.symm⟩
 ·rintro⟨o,ho,rfl⟩
  exact⟨(_,o),lo_row.mpr ⟨ho,rfl⟩,rfl⟩
noncomputable def pay(a:Int->Int)(h:Ht):Int:=if a h.1=a h.2.1 then 0 else h.2.2
theorem sum_add{α:Type}{f g h:α->Int}:∀ {l:List α},(∀ x∈l,f x=g x+h x)->(l.map f).sum=(l.map g).sum+(l.map h).sum
 |[],_=>rfl
 |a :: l,e=>by
  rw[List.map_cons,List.map_cons,List.map_cons,List.sum_cons,List.sum_cons,List.sum_cons,sum_add (l:=l) fun x hx=>e x (List.mem_cons_of_mem _ hx),e a (List.mem_cons_self ..)]
  lia
end Hng
namespace Srt
open PySem PySem.W PyProof.Rows
section
variable{prog:Program}{w:World}{A:Around}{E:Value->Shared->Prop}{s:Shared}
theorem min_listH{p:Addr}{its:Array Value}{bt:Nat->Nat->Bool}{Q:Value->Shared->Prop}(hh:A.handled=none)(lp:s.heap.IsList p its)(n0:0<its.size)(cm:CmpH prog w A.in1 s.heap its.size (fun i v=>its[i]?=some v) bt)
  (q:∀ v g tk,its[argBest bt (its.size-1)]?=some v->(∀ c o,s.heap.get? c=some o->g.get? c=some o)->Q v { s with heap:=g,toks:=tk }):wpAny (model prog w) A (call (.builtin "min") [.ref p]) Q E s:=by
 have nm:(toString "min"++toString ".loop":String) = "min.loop":=by decide
 have old:p<s.heap.objs.size:=Exists.elim lp fun _ z=>Heap.lt_size z.1
 refine call_function_tree F.kind_min F.plain_min F.entry_min (F.args_min1 _) ?_
 show wpAny _ A.in1 (Builtin.Builtins.bindParams "min" ["key","default"] 0 ⟨[],[]⟩ >>= _) _ _ s
 refine wpAny_bind (wpAny_of_eq (show Builtin.Builtins.bindParams "min" ["key","default"] 0 ⟨[],[]⟩=pure [none,none]from rfl) ?_)
 refine wpAny_bind (wpAny_pure (wpAny_bind (wpAny_pyIter_list lp (wpAny_bind (wpAny_newObj_type ?_)))))
 rw[nm]
 have W:=Walks.list (prog:=prog) (w:=w) (A:=A.in1) hh s.heap.objs.size p (Nat.ne_of_lt old) its
 refine wpAny_pure ⟨plainId_quiet F.plain_min_loop _,min_first (g0:=s.heap) W bt cm _ (fun hm=>?_) (fun c o e=>?_) n0 ⟨⟨_,Heap.get?_push_of_some _ (Heap.get?_push_size _ rfl),rfl,rfl⟩,(lp.push _).push _⟩ (fun c o e=>Heap.get?_push_of_some _ (Heap.get?_push_of_some _ e)) (Heap.get?_push_size _ rfl) fun v g tk pv kp=>?_⟩
 ·rw[Heap.size_push]at hm
  rcases List.mem_cons.mp hm with e | hm
  ·exact absurd e (Nat.succ_ne_self _)
  ·have e:=List.mem_singleton.mp hm
   rw[<- e]at old
   exact absurd old (Nat.not_lt_of_le (Nat.le_succ _))
 ·have lt:=Heap.lt_size e
  refine⟨fun hm=>Nat.ne_of_lt lt (List.mem_singleton.mp hm),fun z=>?_⟩
  rw[Heap.size_push]at z
  rw[z]at lt
  exact absurd lt (Nat.not_lt_of_le (Nat.le_succ _))
 ·refine q v g tk pv fun c o e=>kp c o (fun hm=>Nat.ne_of_lt (Heap.lt_size e) (List.mem_singleton.mp hm)) (fun z=>?_) (Heap.get?_push_of_some _ (Heap.get?_push_of_some _ e))
  have lt:=Heap.lt_size e
  rw[Heap.size_push]at z
  rw[z]at lt
  exact absurd lt (Nat.not_lt_of_le (Nat.le_succ _))
end
end Srt
namespace L2
open PySem PySem.W PyProof.Rows Srt
noncomputable def ltP(z y:Int×Int):Prop:=z.1<y.1\/(z.1=y.1/\z.2<y.2)
noncomputable instance (z y:Int×Int):Decidable (ltP z y):=by unfold ltP;infer_instance
noncomputable def btP(rs:List (Int×Int))(i j:Nat):Bool:=decide (ltP (rs.getD i (0,0)) (rs.getD j (0,0)))
theorem best_le(rs:List (Int×Int)):∀ n,argBest (btP rs) n<=n/\∀ i,i<=n->¬ ltP (rs.getD i (0,0)) (rs.getD (argBest (btP rs) n) (0,0))
 | 0=>⟨Nat.le_refl _,fun i hi=>by
  obtain rfl:i=0:=by lia
  show ¬ ltP (rs.getD 0 (0,0)) (rs.getD 0 (0,0))
  unfold ltP
  lia⟩
 |n+1=>by
  obtain⟨h1,h2⟩:=best_le rs n
  unfold argBest
  cases hb:btP rs (n+1) (argBest (btP rs) n)with
  |true =>
   have hb:=of_decide_eq_true hb
   rw[if_pos rfl]
   refine⟨Nat.le_refl _,fun i hi=>?_⟩
   by_cases e:i=n+1
   ·rw[e]
    unfold ltP
    lia
   ·have:=h2 i (by lia)
    unfold ltP at *
    lia
  |false =>
   have hb:=of_decide_eq_false hb
   rw[if_neg Bool.false_ne_true]
   refine⟨by lia,fun i hi=>?_⟩
   by_cases e:i=n+1
   ·rw[e];exact hb
   ·exact h2 i (by lia)
theorem lex_pair(z y:Int×Int):lexO [some z.1,some z.2] [some y.1,some y.2]=decide (ltP z y):=by
 unfold lexO lexO lexO
 by_cases e:z.1=y.1
 ·rw[if_pos (by rw[e])]
  by_cases e2:z.2=y.2
  ·rw[if_pos (by rw[e2])]
   exact(decide_eq_false (by unfold ltP;omega)).symm
  ·rw[if_neg (fun w=>e2 (by injection w))]
   show decide (z.2<y.2)=_
   rw[decide_eq_decide]
   unfold ltP
   omega
 ·rw[if_neg (fun w=>e (by injection w))]
  show decide (z.1<y.1)=_
  rw[decide_eq_decide]
  unfold ltP
  omega
section
variable{X:Cx}
theorem call_minP(hc:X.calm=true)(hu:X.A.units+1<cLine):CallR X (.builtin "min") (fun xs H Q=>∃ (l:Addr) (as:List Addr) (rs:List (Int×Int)),xs=[.ref l]/\H l=some (.lst (as.map V.ref))/\Paired (fun a (r:Int×Int)=>H a=some (.tup [.int r.1,.int r.2])) as rs/\rs≠[] /\
  ∀ (a:Addr) (z:Int×Int),H a=some (.tup [.int z.1,.int z.2])->z∈rs->(∀ y∈rs,¬ ltP y z)->Q (.ref a) H):=by
 intro pins s σ H xs us Q I r h
 obtain⟨l,as,rs,rfl,hl,pa,ne,q⟩:=h
 obtain⟨u,rfl,rx⟩:=vals1 r
 cases rx
 obtain⟨its,r',pl,hz⟩:=I.list (SqL.of (K:=X.K) hl)
 have er:=refs_of r'
 subst er
 have al:=pa.length
 have rp:0<rs.length:=List.length_pos_iff.mpr ne
 have sz:(as.map Value.ref).toArray.size=rs.length:=by rw[List.size_toArray,List.length_map,al]
 have atA:∀ (i:Nat) (v:Value),(as.map Value.ref).toArray[i]?=some v->∃ (h1:i<as.length) (h2:i<rs.length),v = .ref as[i]/\H as[i]=some (.tup ([some rs[i].1,some rs[i].2].map oI))/\rs.getD i (0,0)=rs[i]:=fun i v e=>by
  rw[List.getElem?_toArray,List.getElem?_map]at e
  cases h:as[i]? with
  |none=>rw[h]at e;cases e
  |some a =>
   obtain⟨h1,e1⟩:=List.getElem?_eq_some_iff.mp h
   rw[h]at e
   injection e with e
   have h2:i<rs.length:=by omega
   refine⟨h1,h2,by rw[e1];exact e.symm,Paired.at pa i h1 h2,?_⟩
   rw[List.getD_eq_getElem?_getD,List.getElem?_eq_getElem h2]
   rfl
 obtain⟨b1,b2⟩:=best_le rs (rs.length-1)
 refine min_listH (bt:=btP rs) (I.ok.hd hc) pl.isList (by rw[sz];exact rp) (fun j u v s' Q' E' jl ex pu pv hq=>?_) fun v g tk hv kp=>?_
 ·obtain⟨h1,h2,rfl,g1,d1⟩:=atA _ _ pu
  obtain⟨h3,h4,rfl,g2,d2⟩:=atA _ _ pv
  have t:=ltAt_rows I (A:=X.A.in1) (show X.A.in1.units<cLine from hu) g1 g2 rfl ex
  rw[lex_pair]at t
  have e:btP rs (j+1) (argBest (btP rs) j)=decide (ltP rs[j+1] rs[argBest (btP rs) j]):=by rw[<- d1,<- d2];rfl
  rw[e]at hq
  exact t _ _ _ _ hq
 ·rw[sz]at hv
  obtain⟨h1,h2,rfl,g1,d1⟩:=atA _ _ hv
  refine⟨.ref as[argBest (btP rs) (rs.length-1)],H,I.kept kp,rfl,q _ _ g1 (List.getElem_mem h2) fun y hy=>?_⟩
  obtain⟨i,hi,rfl⟩:=List.getElem_of_mem hy
  have:=b2 i (by omega)
  rw[d1,List.getD_eq_getElem?_getD,List.getElem?_eq_getElem hi]at this
  exact this
end
open PySem PySem.W PyProof.Rows Srt
section
variable{X:Cx}
theorem call_listK(hc:X.calm=true):CallR X (.type "list") (fun xs H Q=>∃ (d:Addr) (kvs:List (Key×V)) (ns:List Int),xs=[V.ref d]/\H d=some (.dK kvs)/\kvs.map (·.1)=ns.map Sum.inl/\∀ (l:Addr),H l=none->Q (.ref l) (upd H l (.lst (ns.map V.int)))):=by
 intro pins s σ H xs us Q I r h
 obtain⟨d,kvs,ns,rfl,hd,hk,q⟩:=h
 obtain⟨u,rfl,rx⟩:=vals1 r
 cases rx
 obtain⟨hz,nsys,vs,rv,m⟩:=dk_of I.hok hd
 obtain⟨o,ep,its,ho,raw,vals⟩:=raw_of rv m
 have ev:(kvs.map fun kv=>kV kv.1)=ns.map V.int:=by
  have:=congrArg (List.map kV) hk
  rw[List.map_map,List.map_map]at this
  exact this
 rw[ev]at vals
 have li:=vals.length
 rw[List.length_map]at li
 have kl:kvs.length=ns.length:=by
  have:=congrArg List.length hk
  rwa [List.length_map,List.length_map]at this
 refine kdl_call (rawSrc nsys) (I.ok.hd hc) (raw _ ho) (by omega) fun h' tk acc c hk hS hacc=>?_
 have eacc:acc.toList=its:=by
  apply List.ext_getElem?
  intro i
  by_cases hi:i<acc.size
  ·have e1:acc.toList[i]?=some acc[i]:=by rw[Array.getElem?_toList,Array.getElem?_eq_getElem hi]
   have e2:=hacc.2 i acc[i] (Array.getElem?_eq_getElem hi)
   rw[e1]
   exact e2.symm
  ·have l0:=hacc.1
   rw[List.getElem?_eq_none (by rw[Array.length_toList];omega),List.getElem?_eq_none (by omega)]
 exact⟨.ref _,_,I.laid (t':=tk) hk (Nat.le_refl _) (show ObjOk X.prog X.w _ h' _ (.lst (ns.map V.int))from⟨by rw[List.length_map];omega,its,c,vals,by rw[<- eacc,Array.toArray_toList];exact hS⟩),rfl,q _ (I.hok.fresh (Nat.le_refl _))⟩
end
open PySem PySem.W PyProof.Rows Srt
noncomputable def RawV(d:Addr)(us:List Value)(ep:Nat)(g:Heap):Prop:=∃ ob en,g.get? d=some ob/\ob.ExactDict/\ob.data = .dict en ep/\en.toList.map (fun r=>r.val)=us
section
variable{d vw it:Addr}{us:List Value}{ep i:Nat}{g g':Heap}{prog:Program}{w:World}{A:Around}{E:Value->Shared->Prop}{s:Shared}
theorem RawV.ty(x:RawV d us ep s.heap):s.TypeIs (.ref d) "dict":=by
 obtain⟨ob,en,a,c,r⟩:=x
 exact⟨ob,a,c.1⟩
theorem rawVals(d:Addr)(nd:(d == sysModules)=false):MeetsIn prog w (Builtin.«dict.values» ⟨[.ref d],[]⟩) (fun _ R s=>(∃ us ep,RawV d us ep s.heap)/\R (.ok (.ret (.ref s.heap.objs.size))) { s with heap:=s.heap.push { cls:=.type "dict_values",data:=.fields #[.ref d] } }) :=
 .of_wp fun A R s ⟨⟨us,ep,x⟩,q⟩=>by
  refine wpAny_bind ?_;unfold Builtin.Dict.noArgs;refine wpAny_bind (wpAny_notOrdered_dict x.ty ?_)
  show wpAny _ _ (pure d) _ _ s;refine wpAny_pure ?_
  show wpAny _ _ (Builtin.Dict.showsAll d >>= _) _ _ s;unfold Builtin.Dict.showsAll
  rw[if_neg (fun e=>Bool.false_ne_true (nd.symm.trans e))];exact wpAny_bind (wpAny_pure (wpAny_bind (wpAny_newObj_type (wpAny_pure ⟨_,rfl,q⟩))))
theorem rawIterV{Q:Value->Shared->Prop}(v:s.heap.IsValuesView vw d)(x:RawV d us ep s.heap)
  (q:Q (.ref s.heap.objs.size) { s with heap:=s.heap.push { cls:=.type "dict_valueiterator",data:=.fields #[.ref d,.int 0 0,.int us.length 0,.int ep 0] } }) :
  wpAny (model prog w) A (pyIter (.ref vw)) Q E s:=by
 obtain⟨ov,h1,h2,h3⟩:=id v
 obtain⟨ob,en,a,c,dt,ke⟩:=x
 have len:en.size=us.length:=by rw[<- ke];simp
 refine wpAny_pyIter_slot v.typeIs F.slot_dict_values_iter (wpAny_call_entry F.slot_dict_values_iter v.typeIs F.entry_dict_values_iter ?_ (F.args_dict_values_iter_1 _))
 unfold Builtin.«dict_values.__iter__»;refine wpAny_bind (wpAny_pure (wpAny_bind ?_))
 unfold Builtin.Dict_items.dictOf;refine wpAny_bind (wpAny_field h1 h3 (x:=.ref d) rfl (wpAny_pure (wpAny_bind ?_)))
 unfold Builtin.Dict_items.newIterator;refine wpAny_bind (wpAny_dictEntries a dt (wpAny_bind (wpAny_dictEpoch a dt ?_)))
 have own:Builtin.Dict_items.ownsTuple "dict_valueiterator" = false:=by decide
 simp only[own,Bool.false_eq_true,if_false];refine wpAny_newObj_type (wpAny_pure ⟨_,rfl,"dict_valueiterator",_,⟨_,Heap.get?_push_size _ rfl,rfl⟩,F.slot_dict_valueiterator_next.lookup,?_⟩);simpa[rawInt,len]using q
theorem rawItemV{v:Value}{Q:Option Value->Shared->Prop}(hI:s.heap.IsValIter it d i us.length ep)(x:RawV d us ep s.heap)(hv:us[i]?=some v)
  (q:∀ g',g'.IsValIter it d (i+1) us.length ep->Heap.SameBut it s.heap g'->Q (some v) { s with heap:=g' }):wpAny (model prog w) A (pyNext (.ref it)) Q E s:=by
 obtain⟨io,a0,c0,d0⟩:=id hI
 obtain⟨ob,en,a,c,dt,ke⟩:=x
 have len:en.size=us.length:=by rw[<- ke];simp
 unfold pyNext;refine wpAny_bind (wpAny_attempt (wpAny_callSpecial?_slot (name:=Str.ofString "__next__") hI.typeIs F.slot_dict_valueiterator_next (wpAny_call_entry F.slot_dict_valueiterator_next hI.typeIs F.entry_dict_valueiterator_next ?_ (F.args_dict_valueiterator_next_1 _))))
 refine wpAny_bind (wpAny_pure (wpAny_bind (wpAny_bind ?_)))
 first | refine wpAny_bind (wpAny_typeNameOfWhole_valiter hI.typeIs (wpAny_pure ?_)) | refine wpAny_bind (wpAny_typeNameOf_valiter hI.typeIs (wpAny_pure ?_))
 refine wpAny_bind (wpAny_fieldsOf a0 d0 ?_);have own:Builtin.Dict_items.ownsTuple "dict_valueiterator" = false:=by decide
 simp only[own,Bool.false_eq_true,if_false];show wpAny _ _ (if(Value.ref d == Value.none)=true then _ else _) _ _ s
 rw[if_neg (show ¬((Value.ref d == Value.none)=true)from Bool.false_ne_true)];refine wpAny_bind (wpAny_pure (wpAny_bind (wpAny_dictEntries a dt ?_)))
 rw[if_neg (by rw[len];simp)];refine wpAny_bind (wpAny_pure (wpAny_bind (wpAny_dictEpoch a dt ?_)))
 rw[if_neg (by simp)];refine wpAny_pure ?_
 have il:i<en.size:=by rw[len];exact(List.getElem?_eq_some_iff.mp hv).1
 have iv:en[i].val=v:=by
  have z:(en.toList.map (fun r=>r.val))[i]?=some en[i].val:=by rw[List.getElem?_map,Array.getElem?_toList,Array.getElem?_eq_getElem il];rfl
  rw[ke,hv]at z
  exact(Option.some.inj z).symm
 simp only[show ¬((i:Int)<0)from by omega,if_false,Int.toNat_natCast,Array.getElem?_eq_getElem il];refine wpAny_bind ?_
 first | refine wpAny_bind (wpAny_typeNameOfWhole_valiter hI.typeIs (wpAny_pure ?_)) | refine wpAny_bind (wpAny_typeNameOf_valiter hI.typeIs (wpAny_pure ?_))
 refine wpAny_bind (wpAny_isOneOf_valiter hI.typeIs ?_);show wpAny _ _ (setField (.ref it) 1 (rawInt ((i:Int)+1)) >>= _) _ _ s
 refine wpAny_bind (wpAny_setField a0 d0 (by simp) ?_)
 have hI':(s.heap.update it (Obj.mapFields (·.setIfInBounds 1 (rawInt ((i:Int)+1))))).IsValIter it d (i+1) us.length ep:=⟨_,Heap.get?_update_self _ a0 (Obj.isFreed_of_fields (Obj.data_mapFields d0 _)),(Obj.cls_mapFields ..).trans c0,by rw[Obj.data_mapFields d0];simp[rawInt]⟩
 refine wpAny_bind (wpAny_holding (wpAny_bind (wpAny_isOneOf_valiter (s:={ s with heap:=s.heap.update it (Obj.mapFields (·.setIfInBounds 1 (rawInt ((i:Int)+1)))) }) hI'.typeIs ?_)))
 refine wpAny_bind (wpAny_isOneOf_valiter (s:={ s with heap:=s.heap.update it (Obj.mapFields (·.setIfInBounds 1 (rawInt ((i:Int)+1)))) }) hI'.typeIs ?_);show wpAny _ _ (pure en[i].val) _ _ _;rw[iv]
 exact wpAny_pure (wpAny_pure ⟨_,rfl,wpAny_pure (q _ hI' (Heap.SameBut.update ..))⟩)
theorem rawEndV{Q:Option Value->Shared->Prop}(hh:A.handled=none)(hI:s.heap.IsValIter it d i us.length ep)(x:RawV d us ep s.heap)(hv:us.length<=i)
  (q:∀ g',Heap.ExtBut it s.heap g'->Q none { s with heap:=g' }):wpAny (model prog w) A (pyNext (.ref it)) Q E s:=by
 obtain⟨io,a0,c0,d0⟩:=id hI
 obtain⟨ob,en,a,c,dt,ke⟩:=x
 have len:en.size=us.length:=by rw[<- ke];simp
 unfold pyNext;refine wpAny_bind (wpAny_attempt (wpAny_callSpecial?_slot (name:=Str.ofString "__next__") hI.typeIs F.slot_dict_valueiterator_next (wpAny_call_entry F.slot_dict_valueiterator_next hI.typeIs F.entry_dict_valueiterator_next ?_ (F.args_dict_valueiterator_next_1 _))))
 refine wpAny_bind (wpAny_pure (wpAny_bind (wpAny_bind ?_)))
 first | refine wpAny_bind (wpAny_typeNameOfWhole_valiter hI.typeIs (wpAny_pure ?_)) | refine wpAny_bind (wpAny_typeNameOf_valiter hI.typeIs (wpAny_pure ?_))
 refine wpAny_bind (wpAny_fieldsOf a0 d0 ?_);have own:Builtin.Dict_items.ownsTuple "dict_valueiterator" = false:=by decide
 simp only[own,Bool.false_eq_true,if_false];show wpAny _ _ (if(Value.ref d == Value.none)=true then _ else _) _ _ s
 rw[if_neg (show ¬((Value.ref d == Value.none)=true)from Bool.false_ne_true)];refine wpAny_bind (wpAny_pure (wpAny_bind (wpAny_dictEntries a dt ?_)))
 rw[if_neg (by rw[len];simp)];refine wpAny_bind (wpAny_pure (wpAny_bind (wpAny_dictEpoch a dt ?_)))
 rw[if_neg (by simp)];refine wpAny_pure ?_
 have il:en.size<=i:=by rw[len];exact hv
 simp only[show ¬((i:Int)<0)from by omega,if_false,Int.toNat_natCast,Array.getElem?_eq_none il];refine wpAny_bind ?_
 first | refine wpAny_bind (wpAny_typeNameOfWhole_valiter hI.typeIs (wpAny_pure ?_)) | refine wpAny_bind (wpAny_typeNameOf_valiter hI.typeIs (wpAny_pure ?_))
 show wpAny _ _ (setField (.ref it) 0 .none >>= _) _ _ s;refine wpAny_bind (wpAny_setField a0 d0 (by simp) ?_)
 show wpAny _ _ (newExc (.type "StopIteration") [] >>= _) _ _ _;refine wpAny_bind ?_
 simp only[newExc,newTuple];refine wpAny_bind (wpAny_newObj_type ?_ (by size_fits))
 refine wpAny_bind (m:=firstArgMember _ _) (wpAny_of_eq (a:=Value.none) (by first | rfl |(simp only[firstArgMember];rfl)) (wpAny_newObj_type ?_ (by size_fits)))
 simp only[raiseNew];refine wpAny_bind (wpAny_handled ?_)
 rw[show A.in1.handled=none from hh];refine wpAny_bind (wpAny_pure (wpAny_throw ?_))
 refine wpAny_bind (wpAny_isInstance (T:="StopIteration") (b:=true) ⟨_,Heap.get?_push_size _ rfl,rfl⟩ isSubtype_stop ?_)
 exact wpAny_pure (q _ (((Heap.SameBut.update ..).extBut.push _).push _))
end
noncomputable def Itv(d:Addr)(o:Obj)(kvs:List (List Key×V)):It:=⟨fun i H=>H d=some (.frz o (.dT kvs))/\i<kvs.length,fun i H x H'=>H'=H/\∃ kv,kvs[i]?=some kv/\x=kv.2,fun i H=>H d=some (.frz o (.dT kvs))/\kvs.length<=i⟩
theorem turn_vt{P:Program}{w:World}{K:PySem.W.Frag}{tg:Expr}{d it:Addr}{o:Obj}{kvs:List (List Key×V)}{us:List Value}{ep:Nat}(raw:∀ g:Heap,g.get? d=some o->RawV d us ep g)(rv:Vals (kvs.map fun kv=>kv.2) us) :
  Turn P w K tg (Itv d o kvs) [it] it (fun i h=>h.IsValIter it d i us.length ep)where
 mem:=by simp
 obj:=fun i h st b hb=>by
  have e:b=it:=by simpa using hb
  subst e
  obtain⟨o,e,c,d⟩:=st
  exact⟨o,e,fun v z=>by rw[d]at z;cases z⟩
 keep:=fun i h h' st k=>by
  obtain⟨o,e,r⟩:=st
  exact⟨o,k it (by simp) o e,r⟩
 item:=by
  intro X hP hw hK hc i pins s σ H E I hf st hg
  subst hP hw hK
  obtain⟨hd,hi⟩:=hg
  have ho:s.heap.get? d=some o:=(I.hok d _ hd).1
  obtain⟨u,hu,ru⟩:=rv.get (i:=i) (x:=kvs[i].2) (by rw[List.getElem?_map,List.getElem?_eq_getElem hi];rfl)
  obtain⟨f0,f1,f2,f3,f4,f5⟩:=hf it (by simp)
  refine rawItemV st (raw _ ho) hu fun h' st' sb=>?_
  have I1:Inv X pins σ H { s with heap:=h' }:=I.turned (t':=s.toks) (fun b o hb e=>(sb.2 b hb).trans e) f0 f1 f3 f4 f5
  obtain⟨o',e,c,dd⟩:=id st'
  exact⟨u,rfl,go_of (s:={ s with heap:=h' }) e c dd (by decide) ⟨_,H,I1,ru,⟨rfl,kvs[i],List.getElem?_eq_getElem hi,rfl⟩,st',fun b hb=>(hf b hb).1⟩⟩
 done:=by
  intro X hP hw hK hc i pins s σ H E I hf st hg
  subst hP hw hK
  obtain⟨hd,hi⟩:=hg
  have ho:s.heap.get? d=some o:=(I.hok d _ hd).1
  obtain⟨f0,f1,f2,f3,f4,f5⟩:=hf it (by simp)
  have hl:=rv.length
  rw[List.length_map]at hl
  exact rawEndV (I.ok.hd hc) st (raw _ ho) (by omega) fun h' eb=>⟨rfl,I.turned (t':=s.toks) (fun b o hb e=>eb b o hb e) f0 f1 f3 f4 f5⟩
 self:=fun _ _ _ _ _ st h=>wpAny_pyIter_valiter st h
noncomputable def iVT(tl:TE):TI:=fun σ H R=>tl σ H fun x H1=>∃ d kvs,x = .ref d/\H1 d=some (.dT kvs)/\∀ o,R (Itv d o kvs) (upd H1 d (.frz o (.dT kvs)))
theorem vals_kt{H:Hp}{kvs:List (List Key×V)}{xs:List (List Key×Addr×Value)}(h:KT H kvs xs):Vals (kvs.map fun kv=>kv.2) (xs.map fun x=>x.2.2):=by
 induction h with
 |nil=>exact .nil
 |cons a _ ih=>exact .cons a.2.2 ih
section
variable{X:Cx}
theorem pi_valsT{tg o:Expr}{td:TE}{apos cpos:Pos}(ho:PE X o td)(hbase:attributeBase o "values" X.env (eval o X.env)=eval o X.env:=by rfl)(line:(apos.endLine == cpos.line)=true:=by rfl):PI X tg (.Call (.Attribute o "values" apos) [] [] cpos) (iVT td):=by
 intro pins s σ H R I h
 refine wpAny_Call_method hbase rfl line PySem.F.plainAttrs_dict PySem.F.slot_dict_values PySem.F.type_dict_values (thn (ho pins s σ H _ I h) fun u s1 ⟨x,H1,I1,rx,d,kvs,ex,hd,q1⟩=>?_)
 subst ex
 obtain rfl:u=Value.ref d:=rx
 obtain⟨hz,nsys,xs,rk,ob,es,ep,h1,h2,h3,h4,h5⟩:=(show ObjOk X.prog X.w H1 s1.heap d (.dT kvs)from I1.hok d _ hd)
 have raw:∀ g:Heap,g.get? d=some ob->RawV d (xs.map fun x=>x.2.2) ep g:=fun g eg=>⟨ob,es,eg,h2,h3,by rw[h4,List.map_map];rfl⟩
 have ty:s1.TypeIs (.ref d) "dict":=(raw _ h1).ty
 refine⟨ty,fun a e=>⟨ob,by injection e with e;rw[<- e];exact h1,h2.2.1⟩,?_⟩
 refine Calls.callWith_builtin rfl (PySem.evalArgs_none ?_)
 refine call_meetsIn PySem.F.slot_dict_values ty PySem.F.entry_dict_values (PySem.F.args_dict_values_1 _) (rawVals d nsys) ⟨⟨_,_,raw _ h1⟩,?_⟩
 have I2:Inv X pins σ (upd H1 d (.frz ob (.dT kvs))) s1:=d_write (t':=s1.toks) (h':=s1.heap) I1 (by rw[hd];exact True.intro) ⟨rfl,fun _ _=>rfl⟩ ⟨ob,h1⟩ (show ObjOk X.prog X.w _ s1.heap d (.frz ob (.dT kvs))from⟨h1,hz,nsys,xs,KT.keeps rk (fun b ys e=>by rw[upd_ne (fun z=>by rw[z,hd]at e;cases e)];exact e),ob,es,ep,h1,h2,h3,h4,h5⟩)
 have I3:=I2.kept (t':=s1.toks) (h':=s1.heap.push { cls:=.type "dict_values",data:=.fields #[.ref d] }) fun b o e=>Heap.get?_push_of_some _ e
 have h1':(s1.heap.push { cls:=.type "dict_values",data:=.fields #[.ref d] }).get? d=some ob:=Heap.get?_push_of_some _ h1
 refine rawIterV ⟨_,Heap.get?_push_size _ rfl,rfl,rfl⟩ (raw _ h1') ?_
 refine⟨_,[(s1.heap.push { cls:=.type "dict_values",data:=.fields #[.ref d] }).objs.size],_,_,_,rfl,I3.kept (t':=s1.toks) fun b o e=>Heap.get?_push_of_some _ e,turn_vt raw (vals_kt rk),⟨_,Heap.get?_push_size _ rfl,rfl,rfl⟩,fun b hb=>?_,q1 ob⟩
 have e:b=(s1.heap.push { cls:=.type "dict_values",data:=.fields #[.ref d] }).objs.size:=by simpa using hb
 subst e
 exact I3.fpOk (Nat.le_refl _) (I3.hok.fresh (Nat.le_refl _))
end
theorem for_vt{d:Addr}{o:Obj}{kvs:List (List Key×V)}{g:TG}{tb:TS}{D:Ends}{σ:St}{H:Hp}(Pv:Nat->St->Hp->Prop)(h0:Pv 0 σ H)(hl:∀ i σ H,i<=kvs.length->Pv i σ H->H d=some (.frz o (.dT kvs)))
  (hs:∀ i kv σ H,kvs[i]?=some kv->Pv i σ H->g kv.2 σ H fun σ2 H2=>tb { D with nx:=Pv (i+1),ct:=Pv (i+1),bk:=D.nx } σ2 H2) (hd:∀ σ H,Pv kvs.length σ H->D.nx σ H) :
  ∃ W:Nat->Nat->St->Hp->Prop,(∃ m,W 0 m σ H)/\∀ i m σ H,W i m σ H ->
   ((Itv d o kvs).stop i H/\D.nx σ H)\/((Itv d o kvs).go i H/\∃ N:St->Hp->Prop,(∀ σ' H',N σ' H'->∃ m',m'<m/\W (i+1) m' σ' H')/\∀ x H',(Itv d o kvs).yld i H x H'->g x σ H' fun σ2 H2=>tb { D with nx:=N,ct:=N,bk:=D.nx } σ2 H2):=by
 refine⟨fun i m σ H=>m=kvs.length-i/\i<=kvs.length/\Pv i σ H,⟨kvs.length,by simp,Nat.zero_le _,h0⟩,?_⟩
 rintro i m σ H ⟨rfl,hi,p⟩
 have q:=hl i σ H hi p
 by_cases hlt:i<kvs.length
 ·refine .inr ⟨⟨q,hlt⟩,Pv (i+1),fun σ' H' p'=>⟨kvs.length-(i+1),by omega,rfl,hlt,p'⟩,fun x H' y=>?_⟩
  obtain⟨rfl,kv,e,rfl⟩:=y
  exact hs i kv σ _ e p
 ·have e:i=kvs.length:=by omega
  subst e
  exact .inl ⟨⟨q,Nat.le_refl _⟩,hd σ H p⟩
open PySem PySem.W PyProof.Rows
noncomputable def Itrl(K:PySem.W.Frag)(a:Addr)(xs:List V):It :=
 ⟨fun i H=>SqL K H a xs/\i<xs.length,fun i H x H'=>H'=H/\xs.reverse[i]?=some x,fun i H=>SqL K H a xs/\xs.length<=i⟩
theorem turn_rev{P:Program}{w:World}{K:PySem.W.Frag}{tg:Expr}{a it:Addr}{xs:List V}:Turn P w K tg (Itrl K a xs) [it] it (fun i h=>i<=xs.length/\h.IsRevIter it a ((xs.length:Int)-1-(i:Int)))where
 mem:=by simp
 obj:=fun i h st b hb=>by
  have e:b=it:=by simpa using hb
  subst e
  obtain⟨_,o,e,c,d⟩:=st
  exact⟨o,e,fun v z=>by rw[d]at z;cases z⟩
 keep:=fun i h h' st k=>⟨st.1,st.2.at fun o e=>k it (by simp) o e⟩
 item:=by
  intro X hP hw hK hc i pins s σ H E I hf st hg
  subst hP hw hK
  obtain⟨hq,hi⟩:=hg
  obtain⟨its,rv,p,hz⟩:=I.list hq
  have hx:xs[xs.length-1-i]?=some (xs[xs.length-1-i]'(by omega)):=List.getElem?_eq_getElem (by omega)
  obtain⟨u,hu,ru⟩:=rv.get hx
  obtain⟨f0,f1,f2,f3,f4,f5⟩:=hf it (by simp)
  have e:(xs.length:Int)-1-(i:Int)=((xs.length-1-i:Nat):Int):=by omega
  have hit:=st.2
  rw[e]at hit
  refine wpAny_pyNext_rev_item hit p.isList (x:=u) (by simpa using hu) fun h' st' sb=>?_
  have I1:Inv X pins σ H { s with heap:=h' }:=I.turned (t':=s.toks) (fun b o hb e=>(sb.2 b hb).trans e) f0 f1 f3 f4 f5
  obtain⟨o,e1,c,d⟩:=id st'
  have e2:((xs.length-1-i:Nat):Int)-1=(xs.length:Int)-1-((i+1:Nat):Int):=by lia
  rw[e2]at st'
  exact⟨u,rfl,go_of (s:={ s with heap:=h' }) e1 c d (by decide) ⟨_,H,I1,ru,⟨rfl,by rw[List.getElem?_reverse hi];exact hx⟩,⟨hi,st'⟩,fun b hb=>(hf b hb).1⟩⟩
 done:=by
  intro X hP hw hK hc i pins s σ H E I hf st hg
  subst hP hw hK
  obtain⟨hq,hi⟩:=hg
  obtain⟨f0,f1,f2,f3,f4,f5⟩:=hf it (by simp)
  have e:(xs.length:Int)-1-(i:Int) = -1:=by have:=st.1;lia
  have hit:=st.2
  rw[e]at hit
  exact wpAny_pyNext_rev_end (I.ok.hd hc) hit fun h' eb=>⟨rfl,I.turned (t':=s.toks) (fun b o hb e=>eb b o hb e) f0 f1 f3 f4 f5⟩
 self:=fun _ _ _ _ _ st h=>wpAny_pyIter_revIter st.2 h
noncomputable def iRev(K:PySem.W.Frag)(ta:TA):TI:=fun σ H R=>ta σ H fun vs H1=>∃ a xs,vs=[.ref a]/\SqL K H1 a xs/\R (Itrl K a xs) H1
section
variable{X:Cx}
theorem pi_rev{tg a:Expr}{ta:TA}{p pos:Pos}(hg:Gl X "reversed")(hm:X.mg "reversed" = none)(ha:PA X [a] ta)(hs:starEach [a] X.env=[(false,eval a X.env)]:=by rfl):PI X tg (.Call (.Name "reversed" p) [a] [] pos) (iRev X.K ta):=by
 intro pins s σ H R I h
 refine Call_ (ld_blt I hg hm boot_reversed (PyProof.Rows.callWith_type1 (thn (ha pos pins s σ H _ I h) fun us s1 ⟨vs,H1,I1,r1,q1⟩=>?_) hs rfl))
 obtain⟨b,xs,e,hq,q⟩:=q1
 subst e
 cases r1 with
 |cons r rr =>
  cases rr
  cases r
  obtain⟨its,rv,pl,hz⟩:=I1.list hq
  have sz:its.toArray.size=xs.length:=by rw[List.size_toArray];exact rv.length.symm
  refine call_reversed_list pl.isList ?_
  rw[sz]
  have I2:=I1.kept (t':=s1.toks) (h':=s1.heap.push (revObj b ((xs.length:Int)-1))) fun c o e=>Heap.get?_push_of_some _ e
  have it:(s1.heap.push (revObj b ((xs.length:Int)-1))).IsRevIter s1.heap.objs.size b ((xs.length:Int)-1-((0:Nat):Int)):=⟨_,Heap.get?_push_size _ rfl,rfl,by show _=_;simp[revObj]⟩
  refine wpAny_pyIter_revIter (s:={ s1 with heap:=s1.heap.push (revObj b ((xs.length:Int)-1)) }) it ?_
  refine⟨s1.heap.objs.size,[s1.heap.objs.size],_,_,H1,rfl,I2,turn_rev,⟨Nat.zero_le _,it⟩,fun c hc=>?_,q⟩
  have e:c=s1.heap.objs.size:=by simpa using hc
  subst e
  exact I1.fpOk (Nat.le_refl _) (I1.hok.fresh (Nat.le_refl _))
end
theorem for_rev{K:PySem.W.Frag}{a:Addr}{xs:List V}{g:TG}{tb:TS}{D:Ends}{σ:St}{H:Hp}(Pv:Nat->St->Hp->Prop)(h0:Pv 0 σ H)(hl:∀ i σ H,i<=xs.length->Pv i σ H->SqL K H a xs)
  (hs:∀ i x σ H,xs.reverse[i]?=some x->Pv i σ H->g x σ H fun σ2 H2=>tb { D with nx:=Pv (i+1),ct:=Pv (i+1),bk:=D.nx } σ2 H2) (hd:∀ σ H,Pv xs.length σ H->D.nx σ H) :
  ∃ W:Nat->Nat->St->Hp->Prop,(∃ m,W 0 m σ H)/\∀ i m σ H,W i m σ H ->
   ((Itrl K a xs).stop i H/\D.nx σ H)\/((Itrl K a xs).go i H/\∃ N:St->Hp->Prop,(∀ σ' H',N σ' H'->∃ m',m'<m/\W (i+1) m' σ' H')/\∀ x H',(Itrl K a xs).yld i H x H'->g x σ H' fun σ2 H2=>tb { D with nx:=N,ct:=N,bk:=D.nx } σ2 H2):=by
 refine⟨fun i m σ H=>m=xs.length-i/\i<=xs.length/\Pv i σ H,⟨xs.length,by simp,Nat.zero_le _,h0⟩,?_⟩
 rintro i m σ H ⟨rfl,hi,p⟩
 have q:=hl i σ H hi p
 by_cases hlt:i<xs.length
 ·refine .inr ⟨⟨q,hlt⟩,Pv (i+1),fun σ' H' p'=>⟨xs.length-(i+1),by omega,rfl,hlt,p'⟩,fun x H' y=>?_⟩
  obtain⟨rfl,e⟩:=y
  exact hs i x σ _ e p
 ·have e:i=xs.length:=by lia
  subst e
  exact .inl ⟨⟨q,Nat.le_refl _⟩,hd σ H p⟩
open PySem PySem.W PyProof.Rows Srt
noncomputable def Iti(d:Addr)(o:Obj)(kvs:List (Key×V)):It :=
 ⟨fun i H=>H d=some (.frz o (.dK kvs))/\i<kvs.length,fun i H v H'=>∃ T kv,v = .ref T/\H T=none/\H'=upd H T (.tup [kV kv.1,kv.2])/\kvs[i]?=some kv,fun i H=>H d=some (.frz o (.dK kvs))/\kvs.length<=i⟩
theorem turn_it{P:Program}{w:World}{K:PySem.W.Frag}{es:List Expr}{kk:Nat}{pos:Pos}{d it:Addr}{o:Obj}{kvs:List (Key×V)}{vs:List (Key×Value)}{ep:Nat}(raw:∀ g:Heap,g.get? d=some o->g.DictAt (mixKind P w) d vs ep)(rv:KV kvs vs) :
  Turn P w K (.Tuple es kk pos) (Iti d o kvs) [it] it (fun i h=>∃ ok ov,IsItemIter h it d i vs.length ep ok ov)where
 mem:=by simp
 obj:=fun i h st b hb=>by
  have e:b=it:=by simpa using hb
  subst e
  obtain⟨ok,ov,st⟩:=st
  exact⟨_,st,fun v z=>by cases z⟩
 keep:=fun i h h' st k=>by
  obtain⟨ok,ov,st⟩:=st
  exact⟨ok,ov,k it (by simp) _ st⟩
 item:=by
  intro X hP hw hK hc i pins s σ H E I hf st hg
  subst hP hw hK
  obtain⟨hd,hi⟩:=hg
  obtain⟨ok,ov,st⟩:=st
  have ho:s.heap.get? d=some o:=(I.hok d _ hd).1
  have vl:kvs.length=vs.length:=Paired.length rv
  have hiv:i<vs.length:=by lia
  obtain⟨ek,rvv⟩:=(show kvs[i].1=vs[i].1/\RelV kvs[i].2 vs[i].2 from Paired.at rv i hi hiv)
  have hn:H s.heap.objs.size=none:=I.hok.fresh (Nat.le_refl _)
  refine wpAny_pyNext_items_item st (raw _ ho) (k:=vs[i].1) (v:=vs[i].2) (by rw[List.getElem?_eq_getElem hiv]) fun key g hk e1 t1 sz kp=>⟨_,rfl,?_⟩
  refine wpAny_letOwnedTupleGo_items e1 fun g' e2 sb=>?_
  have zlt:it≠s.heap.objs.size:=Nat.ne_of_lt (Heap.lt_size st)
  have kp2:∀ b o,b∉[it]->s.heap.get? b=some o->g'.get? b=some o:=fun b o nb z=>by
   have nb:b≠it:=fun w=>nb (List.mem_singleton.mpr w)
   exact sb.extBut _ _ nb (kp b o nb z)
  have rk:RelV (kV kvs[i].1) key:=by
   rw[ek]
   have hk:keyIs vs[i].1 key=true:=hk
   rcases keyIs_shape hk with⟨i,t,e1,e2⟩ |⟨x,t,e1,e2⟩
   ·rw[e1,e2];exact⟨t,rfl⟩
   ·rw[e1,e2];exact⟨t,rfl⟩
  have I2:Inv X pins σ (upd H s.heap.objs.size (.tup [kV kvs[i].1,kvs[i].2])) { s with heap:=g',toks:=s.toks }:=I.turnedN (t':=s.toks) (ch:=[it]) (a:=s.heap.objs.size) (ob:=.tup [kV kvs[i].1,kvs[i].2]) hf kp2 (Nat.le_refl _) (show ObjOk X.prog X.w _ g' _ (.tup [kV kvs[i].1,kvs[i].2])from⟨by show 2<=sizeLine;decide,[key,vs[i].2],.cons rk (.cons rvv .nil),⟨_,sb.extBut _ _ (Ne.symm zlt) t1,rfl,⟨_,rfl⟩⟩⟩)
  refine⟨.ref s.heap.objs.size,_,I2,rfl,⟨_,kvs[i],rfl,hn,rfl,List.getElem?_eq_getElem hi⟩,⟨_,_,e2⟩,fun b hb=>?_⟩
  have e:b=it:=by simpa using hb
  rw[e,upd_ne zlt]
  exact(hf it (by simp)).1
 done:=by
  intro X hP hw hK hc i pins s σ H E I hf st hg
  subst hP hw hK
  obtain⟨hd,hi⟩:=hg
  obtain⟨ok,ov,st⟩:=st
  have ho:s.heap.get? d=some o:=(I.hok d _ hd).1
  have vl:kvs.length=vs.length:=Paired.length rv
  obtain⟨f0,f1,f2,f3,f4,f5⟩:=hf it (by simp)
  exact wpAny_pyNext_items_end (I.ok.hd hc) st (raw _ ho) (List.getElem?_eq_none (by lia)) fun h' eb=>⟨rfl,I.turned (t':=s.toks) (fun b o hb e=>eb b o hb e) f0 f1 f3 f4 f5⟩
 self:=fun _ _ _ _ _ st h=>by
  obtain⟨ok,ov,st⟩:=st
  exact kcp_self st h
noncomputable def iIt(tl:TE):TI:=fun σ H R=>tl σ H fun x H1=>∃ d kvs,x = .ref d/\H1 d=some (.dK kvs)/\∀ o,R (Iti d o kvs) (upd H1 d (.frz o (.dK kvs)))
section
variable{X:Cx}
theorem pi_items{es:List Expr}{kk:Nat}{tpos:Pos}{o:Expr}{td:TE}{apos cpos:Pos}(ho:PE X o td)(hbase:attributeBase o "items" X.env (eval o X.env)=eval o X.env:=by rfl)(line:(apos.endLine == cpos.line)=true:=by rfl):PI X (.Tuple es kk tpos) (.Call (.Attribute o "items" apos) [] [] cpos) (iIt td):=by
 intro pins s σ H R I h
 refine wpAny_Call_method hbase rfl line PySem.F.plainAttrs_dict PySem.F.slot_dict_items PySem.F.type_dict_items (thn (ho pins s σ H _ I h) fun u s1 ⟨x,H1,I1,rx,d,kvs,ex,hd,q1⟩=>?_)
 subst ex
 obtain rfl:u=Value.ref d:=rx
 obtain⟨hz,nsys,vs,rv,m⟩:=dk_of I1.hok hd
 obtain⟨ob,en,ep,h1,h2,h3,h4,h5,h6⟩:=id m
 have raw:∀ g:Heap,g.get? d=some ob->g.DictAt (mixKind X.prog X.w) d vs ep:=fun g eg=>⟨ob,en,eg,h2,h3,h4,h5,h6⟩
 have ty:s1.TypeIs (.ref d) "dict":=⟨ob,h1,h2.1⟩
 refine⟨ty,fun a e=>⟨ob,by injection e with e;rw[<- e];exact h1,h2.2.1⟩,?_⟩
 refine Calls.callWith_builtin rfl (PySem.evalArgs_none ?_)
 refine call_meetsIn PySem.F.slot_dict_items ty PySem.F.entry_dict_items (PySem.F.args_dict_items_1 _) (meets_dict_items (mixKind X.prog X.w) d nsys) ⟨⟨_,m⟩,?_⟩
 have I2:Inv X pins σ (upd H1 d (.frz ob (.dK kvs))) s1:=d_write (t':=s1.toks) (h':=s1.heap) I1 (by rw[hd];exact True.intro) ⟨rfl,fun _ _=>rfl⟩ ⟨ob,h1⟩ (show ObjOk X.prog X.w _ s1.heap d (.frz ob (.dK kvs))from⟨h1,hz,nsys,vs,rv,m⟩)
 have I3:=I2.kept (t':=s1.toks) (h':=s1.heap.push { cls:=.type "dict_items",data:=.fields #[.ref d] }) fun b o e=>Heap.get?_push_of_some _ e
 have h1':(s1.heap.push { cls:=.type "dict_items",data:=.fields #[.ref d] }).get? d=some ob:=Heap.get?_push_of_some _ h1
 refine wpAny_pyIter_items ⟨_,Heap.get?_push_size _ rfl,rfl,rfl⟩ (raw _ h1') ?_
 refine⟨_,[(s1.heap.push { cls:=.type "dict_items",data:=.fields #[.ref d] }).objs.size],_,_,_,rfl,I3.kept (t':=s1.toks) fun b o e=>Heap.get?_push_of_some _ e,turn_it raw rv,⟨_,_,Heap.get?_push_size _ rfl⟩,fun b hb=>?_,q1 ob⟩
 have e:b=(s1.heap.push { cls:=.type "dict_items",data:=.fields #[.ref d] }).objs.size:=by simpa using hb
 subst e
 exact I3.fpOk (Nat.le_refl _) (I3.hok.fresh (Nat.le_refl _))
end
theorem for_it{d:Addr}{o:Obj}{kvs:List (Key×V)}{g:TG}{tb:TS}{D:Ends}{σ:St}{H:Hp}(Pv:Nat->St->Hp->Prop)(h0:Pv 0 σ H)(hl:∀ i σ H,i<=kvs.length->Pv i σ H->H d=some (.frz o (.dK kvs)))
  (hs:∀ i kv σ H T,kvs[i]?=some kv->Pv i σ H->H T=none->g (.ref T) σ (upd H T (.tup [kV kv.1,kv.2])) fun σ2 H2=>tb { D with nx:=Pv (i+1),ct:=Pv (i+1),bk:=D.nx } σ2 H2) (hd:∀ σ H,Pv kvs.length σ H->D.nx σ H) :
  ∃ W:Nat->Nat->St->Hp->Prop,(∃ m,W 0 m σ H)/\∀ i m σ H,W i m σ H ->
   ((Iti d o kvs).stop i H/\D.nx σ H)\/((Iti d o kvs).go i H/\∃ N:St->Hp->Prop,(∀ σ' H',N σ' H'->∃ m',m'<m/\W (i+1) m' σ' H')/\∀ x H',(Iti d o kvs).yld i H x H'->g x σ H' fun σ2 H2=>tb { D with nx:=N,ct:=N,bk:=D.nx } σ2 H2):=by
 refine⟨fun i m σ H=>m=kvs.length-i/\i<=kvs.length/\Pv i σ H,⟨kvs.length,by simp,Nat.zero_le _,h0⟩,?_⟩
 rintro i m σ H ⟨rfl,hi,p⟩
 have q:=hl i σ H hi p
 by_cases hlt:i<kvs.length
 ·refine .inr ⟨⟨q,hlt⟩,Pv (i+1),fun σ' H' p'=>⟨kvs.length-(i+1),by omega,rfl,hlt,p'⟩,fun x H' y=>?_⟩
  obtain⟨T,kv,e1,hT,e2,y⟩:=y
  subst e1
  subst e2
  exact hs i kv σ H T y p hT
 ·have e:i=kvs.length:=by lia
  subst e
  exact .inl ⟨⟨q,Nat.le_refl _⟩,hd σ H p⟩
end L2
namespace K45
open PySem L2 PyProof.Rows
open Hng (Ht Hang kids Met Lst mn lo mv due rowOf Tab opn)
inductive spIoI(vs:List V)(H:Hp)(Q:VK):Prop where
 |mk (b:Bool) (q:Addr) (ps:List Int) (v p:Int) (h1:vs=[.ref q,.int v,.int p]) (h2:H q=some (sqO b (ps.map V.int))) (h3:∀ H',Same H H'->Q (.bl (decide (opn ps v p))) H')
noncomputable def spIo:Sp:=fun vs H Q _=>spIoI vs H Q
noncomputable def PrAt(H:Hp)(a:Addr)(z:Int×Int):Prop:=H a=some (.tup [.int z.1,.int z.2])
inductive spLoI(vs:List V)(H:Hp)(Q:VK):Prop where
 |mk (b:Bool) (q o:Addr) (ps:List Int) (row:List (Option Int)) (ow h:Int) (h1:vs=[.ref q,.ref o,.int ow,.int h]) (h2:H q=some (sqO b (ps.map V.int))) (h3:H o=some (.lst (row.map oI))) (h4:ps.length<=1000) (h5:row.length=ps.length) (h6:lo ps row ow h≠[]) (h7:∀ (a:Addr) (z:Int×Int) (H':Hp),PrAt H' a z->z∈lo ps row ow h->(∀ y∈lo ps row ow h,¬ ltP y z)->Same H H'->Q (.ref a) H')
noncomputable def spLo:Sp:=fun vs H Q _=>spLoI vs H Q
theorem lo_mv{ps:List Int}{row:List (Option Int)}{ow h:Int}{z:Int×Int}(m:z∈lo ps row ow h)(le:∀ y∈lo ps row ow h,¬ ltP y z):z.1=mv ps row ow h:=by
 refine Lst.uniq (l:=(lo ps row ow h).map (·.1)) ⟨List.mem_map.mpr ⟨z,m,rfl⟩,fun y hy=>?_⟩ (Hng.mn_lst fun e=>by rw[List.map_eq_nil_iff.mp e]at m;cases m)
 obtain⟨x,hx,rfl⟩:=List.mem_map.mp hy
 have:=le x hx
 unfold ltP at this
 omega
theorem lo_take{ps:List Int}{row:List (Option Int)}{ow h:Int}{i:Nat}(h1:i<ps.length)(h2:i<row.length):((ps.zip row).take (i+1)).filterMap (fun x=>x.2.map fun z=>(if x.1=ow then z else z+h,x.1))=((ps.zip row).take i).filterMap (fun x=>x.2.map fun z=>(if x.1=ow then z else z+h,x.1))++(match row[i]with | none=>[] | some z=>[(if ps[i]=ow then z else z+h,ps[i])]):=by
 rw[List.take_succ_eq_append_getElem (by rw[List.length_zip];omega),List.filterMap_append,List.getElem_zip]
 congr 1
 cases row[i]with
 |none=>rfl
 |some z=>rfl
section
variable{P:Program}{w:World}{K:PySem.W.Frag}{mg:Str->Option Value}{base:Heap}
noncomputable abbrev nIo:List Str:=["posts","place","post"]
theorem scIo:FnScope nIo ["posts","place","post"] (defScope sIsOpenTo):=⟨rfl,rfl,rfl,by decide +kernel,rfl,by decide +kernel,by decide +kernel⟩
theorem ok_io{f:Addr}{fd:FuncData}(F:Fun K "is_open_to" "is_open_to" sIsOpenTo f fd):FnOk P w K mg base CX0 1 f fd ["posts","place","post"] spIo:=by
 refine F.ok scIo (fun vs H Q E h=>?_) (fun cdv A outer s H vs Q E hr h=>?_)
 ·obtain⟨b,q,ps,v,p,rfl,_⟩:=h
  rfl
 ·obtain⟨b,q,ps,v,p,rfl,gq,fin⟩:=h
  refine⟨_,(pss_one (ps_ret (pe_or (pe_cmpR op_eq (pv 1) (pv 2) (nomark _)) (pe_one (pe_cmpR (op_notInQ b) (pv 1) (pv 0) rfl))))),?_⟩
  refine⟨_,rfl,_,rfl,rfl,?_⟩
  refine⟨_,rfl,?_⟩
  by_cases z:v=p
  ·have e:decide (V.int v=V.int p)=true:=decide_eq_true (by rw[z])
   have o:decide (opn ps v p)=true:=decide_eq_true (.inl z)
   rw[o]at fin
   rw[e]
   exact iteT (fin _ (Same.refl _))
  ·have e:decide (V.int v=V.int p)=false:=decide_eq_false (fun w=>z (by injection w))
   rw[e]
   refine iteF ⟨_,rfl,_,rfl,q,_,rfl,gq,rfl,flat_ints _,?_⟩
   have o:decide (opn ps v p)=(if true=true then !inV (V.int v) (ps.map V.int)else inV (V.int v) (ps.map V.int)):=by
    rw[if_pos rfl,inV_ints,Bool.eq_iff_iff,decide_eq_true_eq]
    unfold opn
    cases h:ps.contains v with
    |true=>exact⟨fun y=>y.elim (fun w=>absurd w z) (fun w=>absurd (List.contains_iff_mem.mp h) w),fun y=>by cases y⟩
    |false=>exact⟨fun _=>rfl,fun _=>.inr fun w=>by rw[List.contains_iff_mem.mpr w]at h;cases h⟩
   rw[o]at fin
   exact fin _ (Same.refl _)
noncomputable abbrev nLo:List Str:=["posts","row","owner","heavy"]
theorem scLo:FnScope nLo ["posts","row","owner","heavy"] (defScope sLeastOf):=⟨rfl,rfl,rfl,by decide +kernel,rfl,by decide +kernel,by decide +kernel⟩
theorem csLo1:CompScope ["post","weight","owner","heavy"] [none,none,some 2,some 3] nLo (defScope sLeastOf) (scO [(".0",.local),("post",.local),("weight",.local),("heavy",.free),("owner",.free)]):=⟨rfl,by decide +kernel,by decide +kernel,by decide +kernel,rfl,capB_ok (by decide +kernel)⟩
theorem ndLo1:(["post","weight","owner","heavy"]:List Str).Nodup:=by decide +kernel
theorem ok_lo{f:Addr}{fd:FuncData}(F:Fun K "least_of" "least_of" sLeastOf f fd)(T:Txt mg)(T2:Txt2 mg):FnOk P w K mg base CX0 1 f fd ["posts","row","owner","heavy"] spLo:=by
 refine F.ok scLo (fun vs H Q E h=>?_) (fun cdv A outer s H vs Q E hr h=>?_)
 ·obtain⟨b,q,o,ps,row,ow,hv,rfl,_⟩:=h
  rfl
 ·obtain⟨b,q,o,ps,row,ow,hv,rfl,gq,go,pl,rl,ne,fin⟩:=h
  have hu1:_+1<cLine:=Nat.lt_of_le_of_lt (Nat.add_le_add_left (show 1<=64 by decide) _) hr.units
  refine⟨_,(pss_one (ps_ret (pe_callB (call_minP rfl hu1) (by rfl) T.min boot_min (@pa_comp _ _ _ _ _ _ _ _ (pe_comp rfl csLo1 (pi_zip b false (by rfl) T2.zip (@pa_nam _ _ _ _ _ _ (pv 0) (@pa_nam _ _ _ _ _ _ (pv 1) pa_nil))) (fun C s H fp=>(pg_tupK K rfl (n:=2) rfl (pgs_cons (pg_name (i:=0) ndLo1 rfl (Or.inl rfl)) (pgs_cons (pg_name (i:=1) ndLo1 rfl (Or.inl rfl)) pgs_nil)) rfl rfl)) (fun C s H fp=>(pf_one (pt_cmp (pc_notN (pv 1))))) (fun C s H fp=>(@pe_tup _ _ _ _ _ (@pa_ife _ _ _ _ _ _ _ _ (pe_ifExp (pt_cmpR op_eq (pv 0) (pv 2) (nomark _)) (pv 1) (pe_op op_add (pv 1) (pv 3))) (@pa_nam _ _ _ _ _ _ (pv 0) pa_nil))))) pa_nil)))),?_⟩
  have sq:SIs b H q (ps.map V.int):=by cases b <;> exact gq
  have mnl:min (ps.map V.int).length (row.map oI).length=ps.length:=by rw[List.length_map,List.length_map,rl];omega
  refine⟨_,rfl,_,rfl,q,o,rfl,⟨_,sq.sqB⟩,⟨_,(show SIs false H o (row.map oI)from go).sqB⟩,?_⟩
  refine comp_zip (K:=K) (b1:=b) (b2:=false) (l1:=q) (l2:=o) (xs:=ps.map V.int) (ys:=row.map oI) (fun i zs G=>Same H G/\∃ cs:List Addr,zs=cs.map V.ref/\Paired (PrAt G) cs (((ps.zip row).take i).filterMap fun x=>x.2.map fun z=>(if x.1=ow then z else z+hv,x.1))) (by rw[mnl,sizeLine_eq];omega) ⟨Same.refl _,[],rfl,.nil⟩ (fun i zs G _ z=>⟨(sq.same z.1).sqB,(show SIs false G o (row.map oI)from z.1 _ _ go).sqB⟩) ?_ ?_
  ·rintro i x y zs G T' hx hy ⟨sG,cs,rfl,pc⟩ hT
   obtain⟨il,ex⟩:=List.getElem?_eq_some_iff.mp hx
   obtain⟨il',ey⟩:=List.getElem?_eq_some_iff.mp hy
   rw[List.length_map]at il il'
   rw[List.getElem_map]at ex ey
   subst ex ey
   rw[lo_take il il']
   have sT:=Same.new (o:=.tup [.int ps[i],oI row[i]]) hT
   generalize ps[i]=p at *
   generalize row[i]=r at *
   refine⟨T',_,rfl,SqT.of upd_same,rfl,_,_,rfl,_,_,rfl,rfl,⟨rfl,rfl,trivial⟩,?_⟩
   refine⟨_,rfl,_,rfl,?_⟩
   cases r with
   |none =>
    refine iteF ⟨sG.trans sT,cs,rfl,?_⟩
    rw[List.append_nil]
    exact Paired.mapP pc fun _ _ h=>sT _ _ h
   |some z =>
    refine iteT ?_
    refine⟨_,rfl,_,rfl,rfl,_,rfl,?_⟩
    have go2:∀ (e:Int),e=(if p=ow then z else z+hv)->∀ (c:Addr),(upd G T' (.tup [.int p,.int z])) c=none->Same H (upd (upd G T' (.tup [.int p,.int z])) c (.tup [.int e,.int p]))/\∃ cs':List Addr,cs.map V.ref++[.ref c]=cs'.map V.ref/\Paired (PrAt (upd (upd G T' (.tup [.int p,.int z])) c (.tup [.int e,.int p]))) cs' (((ps.zip row).take i).filterMap (fun x=>x.2.map fun z=>(if x.1=ow then z else z+hv,x.1))++[(if p=ow then z else z+hv,p)]):=fun e ee c hc=>by
     have sc:=Same.new (o:=.tup [.int e,.int p]) hc
     refine⟨sG.trans (sT.trans sc),cs++[c],by rw[List.map_append];rfl,Paired.snoc (Paired.mapP pc fun _ _ h=>sc _ _ (sT _ _ h)) ?_⟩
     rw[<- ee]
     exact upd_same
    refine ite2 (fun h=>?_) (fun h=>?_)
    ·have h:p=ow:=by
      have:=of_decide_eq_true h
      injection this
     refine⟨_,rfl,_,rfl,(by show 2<=sizeLine;decide),fun c hc=>go2 z (by rw[if_pos h]) c hc⟩
    ·have h:¬ p=ow:=fun w=>h (decide_eq_true (by rw[w]))
     refine⟨_,rfl,_,rfl,_,_,rfl,rfl,_,rfl,(by show 2<=sizeLine;decide),fun c hc=>go2 (z+hv) (by rw[if_neg h]) c hc⟩
  ·rintro zs G _ ⟨sG,cs,rfl,pc⟩ D hD
   rw[mnl,List.take_of_length_le (by rw[List.length_zip];omega)]at pc
   have sD:=Same.new (o:=.lst (cs.map V.ref)) hD
   refine⟨D,cs,_,rfl,upd_same,Paired.mapP pc fun _ _ h=>sD _ _ h,ne,fun a z ga mz le=>?_⟩
   exact fin a z _ ga mz le (sG.trans sD)
end
open PySem L2 PyProof.Rows
open Hng (Ht Hang kids Met Lst mn lo mv due rowOf Tab opn)
theorem same_put{H G:Hp}{c:Addr}{o:HO}(s:Same H G)(h:H c=none):Same H (upd G c o):=fun b u e=>by
 rw[upd_ne (ne_of_none e h)]
 exact s _ _ e
theorem for_seq{K:PySem.W.Frag}{a:Addr}{xs:List V}{g:TG}{tb:TS}{D:Ends}{σ:L2.St}{H:Hp}(b:Bool)(Pv:Nat->L2.St->Hp->Prop)(h0:Pv 0 σ H)(hl:∀ i σ H,i<=xs.length->Pv i σ H->SqB b K H a xs)
  (hs:∀ i x σ H,xs[i]?=some x->Pv i σ H->g x σ H fun σ2 H2=>tb { D with nx:=Pv (i+1),ct:=Pv (i+1),bk:=D.nx } σ2 H2) (hd:∀ σ H,Pv xs.length σ H->D.nx σ H) :
  ∃ W:Nat->Nat->L2.St->Hp->Prop,(∃ m,W 0 m σ H)/\∀ i m σ H,W i m σ H ->
   ((ItB b K a).stop i H/\D.nx σ H)\/((ItB b K a).go i H/\∃ N:L2.St->Hp->Prop,(∀ σ' H',N σ' H'->∃ m',m'<m/\W (i+1) m' σ' H')/\∀ x H',(ItB b K a).yld i H x H'->g x σ H' fun σ2 H2=>tb { D with nx:=N,ct:=N,bk:=D.nx } σ2 H2):=by
 cases b
 ·exact for_list Pv h0 hl hs hd
 ·exact for_tup Pv h0 hl hs hd
theorem sqB_of{b:Bool}{K:PySem.W.Frag}{H:Hp}{a:Addr}{xs:List V}(h:H a=some (sqO b xs)):SqB b K H a xs:=by
 cases b
 ·exact SqL.of h
 ·exact SqT.of h
noncomputable def TabAt(H:Hp)(tb:Addr)(n:Nat)(R:Int->List (Option Int)):Prop:=∃ as:List Addr,as.length=n/\H tb=some (.lst (as.map V.ref))/\∀ (i:Nat) (h:i<as.length),H as[i]=some (.lst ((R i).map oI))
theorem TabAt.same{H H':Hp}{tb:Addr}{n:Nat}{R:Int->List (Option Int)}(h:TabAt H tb n R)(s:Same H H'):TabAt H' tb n R:=by
 obtain⟨as,al,h1,h2⟩:=h
 exact⟨as,al,s _ _ h1,fun i hi=>s _ _ (h2 i hi)⟩
noncomputable def NxAt(H:Hp)(nx:Addr)(ks:List (Int×Int)):Prop:=∃ ns:List Addr,H nx=some (.lst (ns.map V.ref))/\Paired (PrAt H) ns ks
theorem NxAt.same{H H':Hp}{nx:Addr}{ks:List (Int×Int)}(h:NxAt H nx ks)(s:Same H H'):NxAt H' nx ks:=by
 obtain⟨ns,h1,h2⟩:=h
 exact⟨ns,s _ _ h1,Paired.mapP h2 fun _ _ z=>s _ _ z⟩
inductive spWbI(vs:List V)(H:Hp)(Q:VK):Prop where
 |mk (b:Bool) (q nx tb:Addr) (ps:List Int) (v:Int) (ks:List (Int×Int)) (n:Nat) (R:Int->List (Option Int)) (h1:vs=[.ref q,.int v,.ref nx,.ref tb]) (h2:H q=some (sqO b (ps.map V.int))) (h3:NxAt H nx ks) (h4:TabAt H tb n R) (h5:ps.length<=1000) (h6:ks.length<=1000) (h7:(∀ x∈ks,0<=x.1/\x.1<n/\(R x.1).length=ps.length/\∀ o w,lo ps (R x.1) o w≠[])) (h8:∀ (r:Addr) (H':Hp),H' r=some (.lst ((rowOf ps R v ks).map oI))->Same H H'->H r=none->Q (.ref r) H')
noncomputable def spWb:Sp:=fun vs H Q _=>spWbI vs H Q
section
variable{P:Program}{w:World}{K:PySem.W.Frag}{mg:Str->Option Value}{base:Heap}
noncomputable abbrev nWb:List Str:=["posts","place","nexts","table","row","post","weights"]
theorem scWb:FnScope nWb ["posts","place","nexts","table"] (defScope sWeightsBehind):=⟨rfl,rfl,rfl,by decide +kernel,rfl,by decide +kernel,by decide +kernel⟩
theorem csWb1:CompScope ["far","heavy","posts","table","post"] [none,none,some 0,some 3,some 5] nWb (defScope sWeightsBehind) (scO [(".0",.local),("far",.local),("heavy",.local),("least_of",.globalImplicit),("post",.free),("posts",.free),("table",.free)]):=⟨rfl,by decide +kernel,by decide +kernel,by decide +kernel,rfl,capB_ok (by decide +kernel)⟩
theorem ndWb1:(["far","heavy","posts","table","post"]:List Str).Nodup:=by decide +kernel
theorem ok_wb{f gl gi:Addr}{fd dl di:FuncData}(F:Fun K "weights_behind" "weights_behind" sWeightsBehind f fd)(T:Txt mg)(GL:CalF P w K mg base 1 "least_of" ["posts","row","owner","heavy"] spLo gl dl)(GI:CalF P w K mg base 1 "is_open_to" ["posts","place","post"] spIo gi di):FnOk P w K mg base CX0 2 f fd ["posts","place","nexts","table"] spWb:=by
 refine F.ok scWb (fun vs H Q E h=>?_) (fun cdv A outer s H vs Q E hr h=>?_)
 ·obtain⟨b,q,nx,tb,ps,v,ks,n,R,rfl,_⟩:=h
  rfl
 ·obtain⟨b,q,nx,tb,ps,v,ks,n,R,rfl,gq,NX,TA,pl,kl,ok,fin⟩:=h
  have hr1:Room 1 _:=hr
  refine⟨_,(pss_cons (ps_set (i:=4) scWb.nd rfl (Or.inl rfl) (@pe_lst _ _ _ _ pa_nil))
   (pss_cons (ps_for PassesOwn.never rfl (pi_seq b (pv 0)) (pg_name (i:=5) scWb.nd rfl (Or.inr rfl))
   (pss_cons (ps_comp (i:=6) scWb.nd rfl (Or.inl rfl) rfl csWb1 (pi_list (pv 2)) (fun C s H fp=>(pg_tupK K rfl (n:=2) rfl (pgs_cons (pg_name (i:=0) ndWb1 rfl (Or.inl rfl)) (pgs_cons (pg_name (i:=1) ndWb1 rfl (Or.inl rfl)) pgs_nil)) rfl rfl)) (fun C s H fp=>pf_nil) (fun C s H fp=>(@pe_ix _ _ _ _ _ _ _ ix_tupH (pe_call GL.ok hr1 rfl GL.mg GL.kp GL.bd .nil pass0 (@pa_nam _ _ _ _ _ _ (pv 2) (@pa_sub _ _ _ _ _ _ _ (@pe_ix _ _ _ _ _ _ _ ix_listH (pv 3) (pv 0) (fun _ _=>rfl)) (@pa_nam _ _ _ _ _ _ (pv 4) (@pa_nam _ _ _ _ _ _ (pv 1) pa_nil))))) pe_int (fun _ _=>rfl))))
   (pss_one (ps_expr (pe_bmH PySem.F.slot_list_append PySem.F.type_list_append mt_append (pv 4) (@pa_ife _ _ _ _ _ _ _ _ (pe_ifExp (pt_val (pe_call GI.ok hr1 rfl GI.mg GI.kp GI.bd .nil pass0 (@pa_nam _ _ _ _ _ _ (pv 0) (@pa_nam _ _ _ _ _ _ (pv 1) (@pa_nam _ _ _ _ _ _ (pv 5) pa_nil))))) (pe_callB (call_sumH rfl) (by rfl) T.sum boot_sum (@pa_nam _ _ _ _ _ _ (pv 6) pa_nil)) pe_non) pa_nil))))))
   (pss_one (ps_ret (pv 4))))),?_⟩
  obtain⟨ns,gn,pn⟩:=id NX
  have nl:=pn.length
  obtain⟨as,al,gt,gr⟩:=id TA
  have rwl:(rowOf ps R v ks).length=ps.length:=by unfold rowOf;rw[List.length_map]
  refine⟨(by show 0<=sizeLine;decide),fun rw_ hrw=>?_⟩
  refine⟨_,rfl,q,rfl,⟨_,sqB_of (Same.new (o:=.lst []) hrw _ _ gq)⟩,?_⟩
  refine for_seq (K:=K) (a:=q) (xs:=ps.map V.int) b (fun j σ G=>∃ (v5 v6:Option V),σ=[some (.ref q),some (.int v),some (.ref nx),some (.ref tb),some (.ref rw_),v5,v6]/\Same H G/\G rw_=some (.lst (((rowOf ps R v ks).take j).map oI))) ⟨_,_,rfl,Same.new hrw,upd_same⟩ (fun j σ G _ z=>by obtain⟨_,_,_,s,_⟩:=z;exact sqB_of (s _ _ gq)) ?_ ?_
  ·rintro j x σ G hx ⟨v5,v6,rfl,sG,grw⟩
   obtain⟨jl,ex⟩:=List.getElem?_eq_some_iff.mp hx
   rw[List.length_map]at jl
   rw[List.getElem_map]at ex
   subst ex
   have tk:(rowOf ps R v ks).take (j+1)=(rowOf ps R v ks).take j++[if opn ps v ps[j]then some (due ps R ks ps[j])else none]:=by
    rw[List.take_succ_eq_append_getElem (by rw[rwl];exact jl)]
    congr 2
    unfold rowOf
    rw[List.getElem_map]
   rw[tk]
   generalize ps[j]=p at *
   refine⟨_,rfl,nx,rfl,⟨_,SqL.of (sG _ _ gn)⟩,?_⟩
   refine comp_list (K:=K) (a:=nx) (xs:=ns.map V.ref) (fun i zs G2=>Same G G2/\zs=((ks.take i).map fun x=>mv ps (R x.1) p x.2).map V.int) (by rw[List.length_map,sizeLine_eq];lia) ⟨Same.refl _,rfl⟩ (fun i zs G2 _ z=>SqL.of (z.1 _ _ (sG _ _ gn))) ?_ ?_
   ·rintro i x zs G2 hx ⟨s2,rfl⟩
    obtain⟨il,ex⟩:=List.getElem?_eq_some_iff.mp hx
    rw[List.length_map]at il
    rw[List.getElem_map]at ex
    subst ex
    have ik:i<ks.length:=by lia
    have sH2:=sG.trans s2
    have gx:=sH2 _ _ (Paired.at pn i il ik)
    obtain⟨o1,o2,o3,o4⟩:=ok _ (List.getElem_mem ik)
    rw[List.take_succ_eq_append_getElem ik,List.map_append,List.map_append]
    generalize ks[i]=y at *
    generalize ns[i]=na at *
    have yl:y.1.toNat<as.length:=by lia
    have ge:atI (as.map V.ref) y.1=some (V.ref as[y.1.toNat]):=by
     have e:y.1=((y.1.toNat:Nat):Int):=by lia
     have:=atI_nat (xs:=as.map V.ref) (j:=y.1.toNat) (v:=V.ref as[y.1.toNat]) (by rw[List.getElem?_map,List.getElem?_eq_getElem yl];rfl)
     rw[<- e]at this
     exact this
    have gy:=sH2 _ _ (gr _ yl)
    rw[show((y.1.toNat:Nat):Int)=y.1 by lia]at gy
    refine⟨na,_,rfl,SqT.of gx,rfl,_,_,rfl,_,_,rfl,rfl,⟨rfl,rfl,rfl,trivial⟩,?_⟩
    refine⟨_,rfl,_,rfl,_,rfl,tb,_,_,_,rfl,rfl,sH2 _ _ gt,ge,_,rfl,_,rfl,b,q,_,ps,R y.1,p,y.2,rfl,sH2 _ _ gq,gy,pl,o3,o4 _ _,fun a z H' pa m le s'=>?_⟩
    refine⟨a,_,_,_,rfl,rfl,pa,atI_nat (j:=0) rfl,s2.trans s',?_⟩
    rw[lo_mv m le]
    rfl
   ·rintro zs G2 _ ⟨s2,rfl⟩ D hD
    rw[List.length_map,nl,List.take_length]
    have sD:=Same.new (o:=.lst ((ks.map fun x=>mv ps (R x.1) p x.2).map V.int)) hD
    have sH3:=sG.trans (s2.trans sD)
    have gD:(upd G2 D (.lst ((ks.map fun x=>mv ps (R x.1) p x.2).map V.int))) D=some (.lst ((ks.map fun x=>mv ps (R x.1) p x.2).map V.int)):=upd_same
    have grw3:=(s2.trans sD) _ _ grw
    generalize (upd G2 D (.lst ((ks.map fun x=>mv ps (R x.1) p x.2).map V.int)))=G3 at gD sH3 grw3
    refine⟨_,rfl,⟨rw_,_,rfl,grw3⟩,_,rfl,_,rfl,_,rfl,b,q,ps,v,p,rfl,sH3 _ _ gq,fun G4 s4=>⟨_,rfl,?_⟩⟩
    have grw4:=s4 _ _ grw3
    have last:∀ r:Option Int,((rowOf ps R v ks).take j).length<sizeLine->Same H (upd G4 rw_ (.lst (((rowOf ps R v ks).take j).map oI++[oI r])))/\(upd G4 rw_ (.lst (((rowOf ps R v ks).take j).map oI++[oI r]))) rw_=some (.lst (((rowOf ps R v ks).take j++[r]).map oI)):=fun r _=>⟨same_put (sH3.trans s4) hrw,by rw[upd_same,List.map_append];rfl⟩
    have lt:((rowOf ps R v ks).take j).length<sizeLine:=by rw[List.length_take,rwl,sizeLine_eq];lia
    by_cases z:opn ps v p
    ·rw[decide_eq_true z,if_pos z]
     refine iteT ⟨_,rfl,D,_,rfl,s4 _ _ gD,rw_,_,_,rfl,rfl,grw4,by rw[List.length_map];exact lt,?_⟩
     exact⟨_,_,rfl,last (some (due ps R ks p)) lt⟩
    ·rw[decide_eq_false z,if_neg z]
     refine iteF ⟨rw_,_,_,rfl,rfl,grw4,by rw[List.length_map];exact lt,?_⟩
     exact⟨_,_,rfl,last none lt⟩
  ·rintro σ G ⟨v5,v6,rfl,sG,grw⟩
   rw[List.length_map,<- rwl,List.take_length]at grw
   exact⟨_,rfl,fin _ _ grw sG hrw⟩
end
open PySem L2 PyProof.Rows
open Hng (Ht Hang kids Met Lst mn lo mv due rowOf Tab opn)
noncomputable def dkv(D:List Int)(ad:Int->Addr):List (Key×V):=D.map fun v=>(Sum.inl v,V.ref (ad v))
theorem dkv_val{D:List Int}{ad:Int->Addr}{v:Int}:valV (dkv D ad) (Sum.inl v)=if v∈D then some (V.ref (ad v))else none:=by
 induction D with
 |nil=>rfl
 |cons a D ih =>
  unfold valV dkv at *
  rw[List.map_cons,List.find?_cons]
  by_cases e:a=v
  ·have:decide ((Sum.inl a:Key)=Sum.inl v)=true:=decide_eq_true (by rw[e])
   rw[this,if_pos (by rw[e];exact List.mem_cons_self ..),e]
   rfl
  ·have:decide ((Sum.inl a:Key)=Sum.inl v)=false:=decide_eq_false (fun z=>e (by injection z))
   rw[this]
   show Option.map _ _=_
   rw[ih]
   by_cases z:v∈D
   ·rw[if_pos z,if_pos (List.mem_cons_of_mem _ z)]
   ·rw[if_neg z,if_neg (fun y=>by
     rcases List.mem_cons.mp y with y | y
     ·exact e y.symm
     ·exact z y)]
theorem dkv_put{D:List Int}{ad:Int->Addr}{v:Int}{a:Addr}(h:v∉D):putK (dkv D ad) (Sum.inl v) (.ref a)=dkv (D++[v]) fun u=>if u=v then a else ad u:=by
 have e:((dkv D ad).any fun x=>decide (x.1=(Sum.inl v:Key)))=false:=by
  rw[List.any_eq_false]
  intro x hx z
  obtain⟨u,hu,rfl⟩:=List.mem_map.mp hx
  have:=of_decide_eq_true z
  injection this with this
  exact h (this▸hu)
 unfold putK
 rw[e,if_neg Bool.false_ne_true]
 unfold dkv
 rw[List.map_append]
 congr 1
 ·refine List.map_congr_left fun u hu=>?_
  show _=(Sum.inl u,V.ref (if u=v then a else ad u))
  rw[if_neg (fun(z:u=v)=>h (z▸hu))]
 ·show _=[(Sum.inl v,V.ref (if v=v then a else ad v))]
  rw[if_pos rfl]
noncomputable def BhAt(G:Hp)(wl:Addr)(D:List Int)(ad:Int->Addr)(B:Int->List (Int×Int)):Prop:=∀ v∈D,ad v≠wl/\NxAt G (ad v) (B v)
theorem NxAt.to{G G':Hp}{nx c:Addr}{ks:List (Int×Int)}{o:HO}(h:NxAt G nx ks)(hc:∀ xs,G c≠some (.tup xs))(ne:nx≠c)(e:G'=upd G c o):NxAt G' nx ks:=by
 obtain⟨ns,h1,h2⟩:=h
 rw[e]
 refine⟨ns,by rw[upd_ne ne];exact h1,Paired.mapP h2 fun a z h=>?_⟩
 unfold PrAt at *
 rw[upd_ne (fun w=>hc _ (w▸h))]
 exact h
noncomputable def BeI(L:List Ht)(n:Nat)(t bs d wl:Addr)(H1:Hp)(m:Nat)(σ:L2.St)(G:Hp):Prop:=∃ (D Wt:List Int) (ad:Int->Addr) (B:Int->List (Int×Int)) (v4:Option V),m=n-D.length/\σ=[some (.ref t),some (.ref bs),some (.ref d),some (.ref wl),v4]/\Same H1 G/\G d=some (.dK (dkv D ad))/\G wl=some (.lst (Wt.map V.int))/\BhAt G wl D ad B/\Met L D Wt/\∀ v∈D,(B v).Perm (kids L v)
inductive spBeI(vs:List V)(H:Hp)(Q:VK):Prop where
 |mk (t:Addr) (n:Nat) (ties:List Tie) (L:List Ht) (h1:vs=[.ref t]) (h2:WebAt H t n ties) (h3:(∀ x∈ties,TieOk n x)) (h4:n<=30) (h5:Hang n ties L) (h6:∀ (d wl:Addr) (D:List Int) (ad:Int->Addr) (B:Int->List (Int×Int)) (H':Hp),H d=none->H' d=some (.dK (dkv D ad))->BhAt H' wl D ad B->Met L D []->(∀ v∈D,(B v).Perm (kids L v))->Same H H'->Q (.ref d) H')
noncomputable def spBe:Sp:=fun vs H Q _=>spBeI vs H Q
theorem bes_len(ties:List Tie)(p:Int):(Nar.bes ties p).length<=ties.length:=by
 unfold Nar.bes
 induction ties with
 |nil=>exact Nat.le_refl _
 |cons x ties ih =>
  rw[List.flatMap_cons,List.length_append,List.length_cons]
  have:(if x.1=p then [(x.2.1,x.2.2)]else if x.2.1=p then [(x.1,x.2.2)]else []).length<=1:=by
   split
   ·exact Nat.le_refl _
   ·split
    ·exact Nat.le_refl _
    ·exact Nat.zero_le _
  lia
section
variable{P:Program}{w:World}{K:PySem.W.Frag}{mg:Str->Option Value}{base:Heap}
noncomputable abbrev nBe:List Str:=["web","beside","behind","waiting","place"]
theorem scBe:FnScope nBe ["web"] (defScope sBehindEach):=⟨rfl,rfl,rfl,by decide +kernel,rfl,by decide +kernel,by decide +kernel⟩
theorem csBe1:CompScope ["far","weight","behind"] [none,none,some 2] nBe (defScope sBehindEach) (scO [(".0",.local),("far",.local),("weight",.local),("behind",.free)]):=⟨rfl,by decide +kernel,by decide +kernel,by decide +kernel,rfl,capB_ok (by decide +kernel)⟩
theorem ndBe1:(["far","weight","behind"]:List Str).Nodup:=by decide +kernel
theorem csBe2:CompScope ["far","weight"] [none,none] nBe (defScope sBehindEach) (scO [(".0",.local),("far",.local),("weight",.local)]):=⟨rfl,by decide +kernel,by decide +kernel,by decide +kernel,rfl,capB_ok (by decide +kernel)⟩
theorem ndBe2:(["far","weight"]:List Str).Nodup:=by decide +kernel
theorem ok_be{f gb:Addr}{fd db:FuncData}(F:Fun K "behind_each" "behind_each" sBehindEach f fd)(T:Txt mg)(GB:CalF P w K mg base 1 "beside_each" ["web"] spBes gb db):FnOk P w K mg base CX0 2 f fd ["web"] spBe:=by
 refine F.ok scBe (fun vs H Q E h=>?_) (fun cdv A outer s H vs Q E hr h=>?_)
 ·obtain⟨t,n,ties,L,rfl,_⟩:=h
  rfl
 ·obtain⟨t,n,ties,L,rfl,W,ok,n30,HG,fin⟩:=h
  have hr1:Room 1 _:=hr
  have hu:_+1<cLine:=Nat.lt_of_le_of_lt (Nat.add_le_add_left (show 1<=64 by decide) _) hr.units
  refine⟨_,(pss_cons (ps_set (i:=1) scBe.nd rfl (Or.inl rfl) (pe_call GB.ok hr1 rfl GB.mg GB.kp GB.bd .nil pass0 (@pa_nam _ _ _ _ _ _ (pv 0) pa_nil)))
   (pss_cons (ps_set (i:=2) scBe.nd rfl (Or.inr rfl) pe_dnewK)
   (pss_cons (ps_set (i:=3) scBe.nd rfl (Or.inl rfl) (@pe_lst _ _ _ _ (@pa_cst _ _ _ _ _ _ _ pe_int pa_nil)))
   (pss_cons (ps_while PassesOwn.never (pt_truth (pv 3) (fun _=>rfl)) (pss_cons (ps_set (i:=4) scBe.nd rfl (Or.inl rfl) (pe_bm0H PySem.F.slot_list_pop PySem.F.type_list_pop mt_pop (pv 3)))
   (pss_cons (ps_dput hu (pv 2) (pv 4) (pe_comp rfl csBe1 (pi_list (@pe_ix _ _ _ _ _ _ _ ix_listH (pv 1) (pv 4) (fun _ _=>rfl))) (fun C s H fp=>(pg_tupK K rfl (n:=2) rfl (pgs_cons (pg_name (i:=0) ndBe1 rfl (Or.inl rfl)) (pgs_cons (pg_name (i:=1) ndBe1 rfl (Or.inl rfl)) pgs_nil)) rfl rfl)) (fun C s H fp=>(pf_one (pt_cmp (pc_dnotin hu (pv 0) (pv 2))))) (fun C s H fp=>(@pe_tup _ _ _ _ _ (@pa_nam _ _ _ _ _ _ (pv 0) (@pa_nam _ _ _ _ _ _ (pv 1) pa_nil))))) rfl)
   (pss_one (ps_expr (pe_bmH PySem.F.slot_list_extend PySem.F.type_list_extend mt_extend (pv 3) (@pa_comp _ _ _ _ _ _ _ _ (pe_comp rfl csBe2 (pi_list (pe_dget hu (pv 2) (pv 4) (fun _ _=>rfl))) (fun C s H fp=>(pg_tupK K rfl (n:=2) rfl (pgs_cons (pg_name (i:=0) ndBe2 rfl (Or.inl rfl)) (pgs_cons (pg_name (i:=1) ndBe2 rfl (Or.inl rfl)) pgs_nil)) rfl rfl)) (fun C s H fp=>pf_nil) (fun C s H fp=>(pv 0))) pa_nil)))))))
   (pss_one (ps_ret (pv 2))))))),?_⟩
  have tl:ties.length<=60:=W.2
  refine⟨_,rfl,t,n,ties,rfl,W,ok,by lia,fun bs as0 H1 gb al BA s1=>?_⟩
  refine fun d hd=>?_
  have sd:=Same.new (o:=.dK []) hd
  refine⟨(by show 1<=sizeLine;decide),fun wl hwl=>?_⟩
  have swl:=Same.new (o:=.lst [.int 0]) hwl
  have wl0:H1 wl=none:=sd.free hwl
  have ndw:d≠wl:=fun z=>by rw[<- z,upd_same]at hwl;cases hwl
  have gd0:(upd (upd H1 d (.dK [])) wl (.lst [.int 0])) d=some (.dK (dkv [] fun _=>wl)):=by rw[upd_ne ndw];exact upd_same
  have gw0:(upd (upd H1 d (.dK [])) wl (.lst [.int 0])) wl=some (.lst (([0]:List Int).map V.int)):=upd_same
  have s01:=sd.trans swl
  generalize (upd (upd H1 d (.dK [])) wl (.lst [.int 0]))=H2 at gd0 gw0 s01
  refine⟨BeI L n t bs d wl H1,⟨_,[],[0],fun _=>wl,fun _=>[],none,rfl,rfl,s01,gd0,gw0,(fun _ h=>nomatch h),Hng.met_start L,(fun _ h=>nomatch h)⟩,?_⟩
  rintro m σ G ⟨D,Wt,ad,B,v4,rfl,rfl,sG,gd,gw,bh,M,pk⟩
  refine⟨_,rfl,_,.inl ⟨_,SqL.of gw,rfl⟩,?_⟩
  rcases List.eq_nil_or_concat Wt with rfl |⟨W',v,rfl⟩
  ·refine iteF ⟨_,rfl,fin d wl D ad B G (s1.free hd) gd bh M pk (s1.trans sG)⟩
  ·rw[List.concat_eq_append]at gw M
   have em:(!((W'++[v]).map V.int).isEmpty)=true:=by cases W' <;> rfl
   rw[List.concat_eq_append,em]
   refine iteT ?_
   obtain⟨mlen,mrg⟩:=Hng.met_len HG M
   have vm:v∈D++(W'++[v]):=List.mem_append_right _ (List.mem_append_right _ (List.mem_singleton.mpr rfl))
   obtain⟨v0,v1⟩:=mrg v vm
   have vD:v∉D:=fun z=>(List.nodup_append.mp M.nd).2.2 v z v (List.mem_append_right _ (List.mem_singleton.mpr rfl)) rfl
   have dl:D.length+(W'.length+1)<=n:=by
    rw[List.length_append,List.length_append]at mlen
    exact mlen
   have mk:=Hng.met_kids HG M
   refine⟨BeI L n t bs d wl H1 (n-(D++[v]).length),fun σ' H' h=>⟨_,by rw[List.length_append,List.length_singleton];lia,h⟩,?_⟩
   have hlast:((W'++[v]).map V.int)[((W'++[v]).map V.int).length-1]?=some (V.int v):=by simp
   refine⟨_,rfl,⟨wl,_,rfl,gw⟩,wl,_,_,rfl,rfl,gw,hlast,?_⟩
   have dr:((W'++[v]).map V.int).dropLast=W'.map V.int:=by rw[List.map_append];exact List.dropLast_concat
   rw[dr]
   have sG1:Same H1 (upd G wl (.lst (W'.map V.int))):=same_put sG wl0
   have gd1:(upd G wl (.lst (W'.map V.int))) d=some (.dK (dkv D ad)):=by rw[upd_ne ndw];exact gd
   have gw1:(upd G wl (.lst (W'.map V.int))) wl=some (.lst (W'.map V.int)):=upd_same
   have bh1:BhAt (upd G wl (.lst (W'.map V.int))) wl D ad B:=fun u hu=>⟨(bh u hu).1,(bh u hu).2.to (fun xs z=>by rw[gw]at z;cases z) (bh u hu).1 rfl⟩
   generalize (upd G wl (.lst (W'.map V.int)))=G1 at sG1 gd1 gw1 bh1
   have vl:v.toNat<as0.length:=by lia
   obtain⟨cs0,gcs,pcs⟩:=BA v.toNat vl
   have ev:v=((v.toNat:Nat):Int):=by lia
   have pcs:Paired (PrAt H1) cs0 (Nar.bes ties ((v.toNat:Nat):Int)):=pcs
   rw[<- ev]at pcs
   have ab:atI (as0.map V.ref) v=some (V.ref as0[v.toNat]):=by
    have:=atI_nat (xs:=as0.map V.ref) (j:=v.toNat) (v:=V.ref as0[v.toNat]) (by rw[List.getElem?_map,List.getElem?_eq_getElem vl];rfl)
    rw[<- ev]at this
    exact this
   have cl:=pcs.length
   have bl:=bes_len ties v
   refine⟨_,rfl,_,rfl,bs,_,_,_,rfl,rfl,sG1 _ _ gb,ab,_,rfl,⟨_,SqL.of (sG1 _ _ gcs)⟩,?_⟩
   refine comp_list (K:=K) (a:=as0[v.toNat]) (xs:=cs0.map V.ref) (fun i zs G2=>Same G1 G2/\∃ cs:List Addr,zs=cs.map V.ref/\Paired (PrAt G2) cs (((Nar.bes ties v).take i).filter fun x=>decide (x.1∉D))) (by rw[List.length_map,sizeLine_eq];lia) ⟨Same.refl _,[],rfl,.nil⟩ (fun i zs G2 _ z=>SqL.of (z.1 _ _ (sG1 _ _ gcs))) ?_ ?_
   ·rintro i x zs G2 hx ⟨s2,cs,rfl,pc⟩
    obtain⟨il,ex⟩:=List.getElem?_eq_some_iff.mp hx
    rw[List.length_map]at il
    rw[List.getElem_map]at ex
    subst ex
    have ik:i <(Nar.bes ties v).length:=by lia
    have gx:=(sG1.trans s2) _ _ (Paired.at pcs i il ik)
    rw[List.take_succ_eq_append_getElem ik,List.filter_append]
    generalize (Nar.bes ties v)[i]=y at *
    generalize cs0[i]=na at *
    refine⟨na,_,rfl,SqT.of gx,rfl,_,_,rfl,_,_,rfl,rfl,⟨rfl,trivial⟩,?_⟩
    refine⟨_,rfl,_,rfl,d,_,rfl,DGet.k (k:=Sum.inl y.1) (s2 _ _ gd1),_,rfl,?_⟩
    rw[dkv_val]
    by_cases z:y.1∈D
    ·rw[if_pos z]
     refine iteF ⟨s2,cs,rfl,?_⟩
     rw[List.filter_cons,if_neg (fun w=>(of_decide_eq_true w) z),List.filter_nil,List.append_nil]
     exact pc
    ·rw[if_neg z]
     refine iteT ⟨_,rfl,_,rfl,(by show 2<=sizeLine;decide),fun c hc=>?_⟩
     have sc:=Same.new (o:=.tup [.int y.1,.int y.2]) hc
     rw[List.filter_cons,if_pos (decide_eq_true z),List.filter_nil]
     exact⟨s2.trans sc,cs++[c],by rw[List.map_append];rfl,Paired.snoc (Paired.mapP pc fun _ _ h=>sc _ _ h) upd_same⟩
   ·rintro zs G2 _ ⟨s2,cs,rfl,pc⟩ Dl hDl
    rw[List.length_map,cl,List.take_length]at pc
    generalize eks:(Nar.bes ties v).filter (fun x=>decide (x.1∉D))=ks at pc mk
    have ksl:ks.length<=60:=by
     have:=List.length_filter_le (fun x=>decide (x.1∉D)) (Nar.bes ties v)
     rw[eks]at this
     lia
    have csl:=pc.length
    have sDl:=Same.new (o:=.lst (cs.map V.ref)) hDl
    have gd2:=sDl _ _ (s2 _ _ gd1)
    have gw2:=sDl _ _ (s2 _ _ gw1)
    have dlw:Dl≠wl:=fun z=>by rw[z,s2 _ _ gw1]at hDl;cases hDl
    have dld:Dl≠d:=fun z=>by rw[z,s2 _ _ gd1]at hDl;cases hDl
    refine⟨_,rfl,_,rfl,d,_,rfl,DPut.k (k:=Sum.inl v) gd2 (by unfold dkv;rw[List.length_map,sizeLine_eq];lia),?_⟩
    rw[dkv_put vD]
    have nx0:NxAt (upd G2 Dl (.lst (cs.map V.ref))) Dl ks:=⟨cs,upd_same,Paired.mapP pc fun _ _ h=>sDl _ _ h⟩
    have bh3:BhAt (upd (upd G2 Dl (.lst (cs.map V.ref))) d (.dK (dkv (D++[v]) fun u=>if u=v then Dl else ad u))) wl (D++[v]) (fun u=>if u=v then Dl else ad u) (fun u=>if u=v then ks else B u):=fun u hu=>by
     show(if u=v then Dl else ad u)≠wl/\NxAt _ (if u=v then Dl else ad u) (if u=v then ks else B u)
     by_cases z:u=v
     ·rw[if_pos z,if_pos z]
      exact⟨dlw,nx0.to (fun xs w=>by rw[gd2]at w;cases w) dld rfl⟩
     ·rw[if_neg z,if_neg z]
      have uD:u∈D:=by
       rcases List.mem_append.mp hu with h | h
       ·exact h
       ·exact absurd (List.mem_singleton.mp h) z
      obtain⟨b1,b2⟩:=bh1 u uD
      have b3:=b2.same (s2.trans sDl)
      refine⟨b1,b3.to (fun xs w=>by rw[gd2]at w;cases w) (fun w=>?_) rfl⟩
      obtain⟨ns,g1,_⟩:=b3
      rw[w,gd2]at g1
      cases g1
    have gw3:(upd (upd G2 Dl (.lst (cs.map V.ref))) d (.dK (dkv (D++[v]) fun u=>if u=v then Dl else ad u))) wl=some (.lst (W'.map V.int)):=by rw[upd_ne (Ne.symm ndw)];exact gw2
    have gd3:(upd (upd G2 Dl (.lst (cs.map V.ref))) d (.dK (dkv (D++[v]) fun u=>if u=v then Dl else ad u))) d=some (.dK (dkv (D++[v]) fun u=>if u=v then Dl else ad u)):=upd_same
    have sG3:Same H1 (upd (upd G2 Dl (.lst (cs.map V.ref))) d (.dK (dkv (D++[v]) fun u=>if u=v then Dl else ad u))):=same_put (sG1.trans (s2.trans sDl)) hd
    generalize (upd (upd G2 Dl (.lst (cs.map V.ref))) d (.dK (dkv (D++[v]) fun u=>if u=v then Dl else ad u)))=G3 at bh3 gw3 gd3 sG3
    have vm':v∈D++[v]:=List.mem_append_right _ (List.mem_singleton.mpr rfl)
    have nx3:NxAt G3 Dl ks:=by
     have:=(bh3 v vm').2
     have this:NxAt G3 (if v=v then Dl else ad v) (if v=v then ks else B v):=this
     rw[if_pos rfl,if_pos rfl]at this
     exact this
    obtain⟨ns,gn,pn⟩:=nx3
    have nl:=pn.length
    refine⟨_,rfl,⟨wl,_,rfl,gw3⟩,_,rfl,_,rfl,d,.ref Dl,rfl,?_,Dl,rfl,⟨_,SqL.of gn⟩,?_⟩
    ·have:=DGet.k (k:=Sum.inl v) gd3
     rw[dkv_val,if_pos vm']at this
     have this:DGet G3 d (kV (Sum.inl v)) (some (V.ref (if v=v then Dl else ad v))):=this
     rw[if_pos rfl]at this
     exact this
    refine comp_list (K:=K) (a:=Dl) (xs:=ns.map V.ref) (fun i zs G4=>Same G3 G4/\zs=((ks.take i).map (·.1)).map V.int) (by rw[List.length_map,sizeLine_eq];lia) ⟨Same.refl _,rfl⟩ (fun i zs G4 _ z=>SqL.of (z.1 _ _ gn)) ?_ ?_
    ·rintro i x zs G4 hx ⟨s4,rfl⟩
     obtain⟨il,ex⟩:=List.getElem?_eq_some_iff.mp hx
     rw[List.length_map]at il
     rw[List.getElem_map]at ex
     subst ex
     have ik:i<ks.length:=by lia
     have gx:=s4 _ _ (Paired.at pn i il ik)
     rw[List.take_succ_eq_append_getElem ik,List.map_append,List.map_append]
     generalize ks[i]=y at *
     generalize ns[i]=na at *
     exact⟨na,_,rfl,SqT.of gx,rfl,_,_,rfl,_,_,rfl,rfl,trivial,_,rfl,s4,rfl⟩
    ·rintro zs G4 _ ⟨s4,rfl⟩ D2 hD2
     rw[List.length_map,nl,List.take_length]
     have sD2:=Same.new (o:=.lst ((ks.map (·.1)).map V.int)) hD2
     have s34:=s4.trans sD2
     have gw4:=s34 _ _ gw3
     refine⟨wl,D2,_,_,rfl,rfl,gw4,upd_same,by rw[List.length_map,List.length_map,List.length_map,sizeLine_eq];lia,?_⟩
     refine⟨D++[v],W'++ks.map (·.1),fun u=>if u=v then Dl else ad u,fun u=>if u=v then ks else B u,_,rfl,rfl,same_put (sG3.trans s34) wl0,by rw[upd_ne ndw];exact s34 _ _ gd3,by rw[upd_same,List.map_append],fun u hu=>⟨(bh3 u hu).1,((bh3 u hu).2.same s34).to (fun xs z=>by rw[gw4]at z;cases z) (bh3 u hu).1 rfl⟩,Hng.met_step HG M (mk.map _),fun u hu=>?_⟩
     show(if u=v then ks else B u).Perm (kids L u)
     by_cases z:u=v
     ·rw[if_pos z,z];exact mk
     ·rw[if_neg z]
      rcases List.mem_append.mp hu with h | h
      ·exact pk u h
      ·exact absurd (List.mem_singleton.mp h) z
end
end K45
namespace Hng
section
variable{n:Nat}{ties:List Nar.Tie}{L:List Ht}{D:List Int}
theorem nd_ix(nd:D.Nodup){i j:Nat}(hi:i<D.length)(hj:j<D.length)(e:D[i]=D[j]):i=j:=(List.getElem_inj nd).mp e
theorem met_drop(H:Hang n ties L)(M:Met L D []){i:Nat}(hi:i<D.length){h:Ht}(hh:h∈L)(e:h.2.1=D[i]):∃ (j:Nat) (hj:j<D.length),i<j/\D[j]=h.1:=by
 obtain⟨nd,len,rg,z0⟩:=met_end H M
 have:=M.down h hh (by rw[e];exact List.getElem_mem hi)
 rw[List.append_nil]at this
 obtain⟨j,hj,ej⟩:=List.getElem_of_mem this
 refine⟨j,hj,?_,ej⟩
 rcases M.up j hj with y |⟨g,hg,eg,u⟩
 ·exact absurd (by rw[<- ej,y]) (H.ne hh).1
 ·rw[H.one hg hh (by rw[eg,ej]),e]at u
  obtain⟨k,hk,ek⟩:=List.getElem_of_mem u
  rw[List.length_take]at hk
  rw[List.getElem_take]at ek
  have:=nd_ix nd (by omega) hi ek
  omega
theorem row_congr{ps:List Int}{R R':Int->List (Option Int)}{v:Int}{ks:List (Int×Int)}(h:∀ x∈ks,R x.1=R' x.1):rowOf ps R v ks=rowOf ps R' v ks:=by
 unfold rowOf due
 refine List.map_congr_left fun q _=>?_
 have:(ks.map fun x=>mv ps (R x.1) q x.2)=ks.map fun x=>mv ps (R' x.1) q x.2:=List.map_congr_left fun x hx=>by rw[h x hx]
 rw[this]
theorem kid_of{v:Int}{x:Int×Int}(h:x∈kids L v):∃ g∈L,g.2.1=v/\g.1=x.1/\g.2.2=x.2:=by
 obtain⟨g,hg,rfl⟩:=List.mem_map.mp h
 obtain⟨hg,e⟩:=List.mem_filter.mp hg
 exact⟨g,hg,of_decide_eq_true e,rfl,rfl⟩
noncomputable def Told(ps:List Int)(L:List Ht)(D:List Int)(R:Int->List (Option Int))(k:Nat):Prop:=∀ (j:Nat) (hj:j<D.length),k<=j->R D[j]=rowOf ps R D[j] (kids L D[j])
theorem told_step{ps:List Int}{R:Int->List (Option Int)}{k:Nat}(H:Hang n ties L)(M:Met L D [])(hk:k<D.length)(T:Told ps L D R (k+1)){ks:List (Int×Int)}(p:ks.Perm (kids L D[k])) :
  Told ps L D (fun u=>if u=D[k]then rowOf ps R D[k] ks else R u) k:=by
 obtain⟨nd,len,rg,z0⟩:=met_end H M
 have other:∀ (j:Nat) (hj:j<D.length),k<=j->∀ x∈kids L D[j],R x.1=(fun u=>if u=D[k]then rowOf ps R D[k] ks else R u) x.1:=fun j hj kj x hx=>by
  obtain⟨g,hg,e1,e2,_⟩:=kid_of hx
  obtain⟨i,hi,lt,ei⟩:=met_drop H M hj hg e1
  show R x.1=if x.1=D[k]then _ else R x.1
  rw[if_neg (fun z=>by
   have:=nd_ix nd hi hk (by rw[ei,e2,z])
   omega)]
 intro j hj kj
 show(if D[j]=D[k]then rowOf ps R D[k] ks else R D[j])=_
 by_cases z:D[j]=D[k]
 ·obtain rfl:=nd_ix nd hj hk z
  rw[if_pos rfl]
  exact(row_perm p).trans (row_congr (other j hj kj))
 ·rw[if_neg z,T j hj (by
   have:j≠k:=fun y=>z (by subst y;rfl)
   omega)]
  exact row_congr (other j hj kj)
theorem told_tab{ps:List Int}{R:Int->List (Option Int)}(H:Hang n ties L)(M:Met L D [])(T:Told ps L D R 0):Tab n ps L R:=fun v v0 v1=>by
 obtain⟨nd,len,rg,z0⟩:=met_end H M
 have:=nd_all nd rg len v0 v1
 obtain⟨j,hj,rfl⟩:=List.getElem_of_mem this
 exact T j hj (Nat.zero_le _)
theorem told_ok{ps:List Int}{R:Int->List (Option Int)}{k:Nat}(H:Hang n ties L)(M:Met L D [])(hk:k<D.length)(T:Told ps L D R (k+1))(ne:ps≠[]){ks:List (Int×Int)}(p:ks.Perm (kids L D[k])) :
  ∀ x∈ks,0<=x.1/\x.1<n/\(R x.1).length=ps.length/\∀ o w,lo ps (R x.1) o w≠[]:=fun x hx=>by
 obtain⟨nd,len,rg,z0⟩:=met_end H M
 obtain⟨g,hg,e1,e2,_⟩:=kid_of (p.mem_iff.mp hx)
 obtain⟨i,hi,lt,ei⟩:=met_drop H M hk hg e1
 have r:=rg _ (List.getElem_mem hi)
 have t:=T i hi lt
 rw[ei,e2]at r t
 refine⟨r.1,r.2,by rw[t];unfold rowOf;rw[List.length_map],fun o w=>?_⟩
 rw[t]
 exact lo_ne ne
end
end Hng
namespace K45
open PySem L2 PyProof.Rows
open Hng (Ht Hang kids Met Lst mn lo mv due rowOf Tab opn Told)
noncomputable def TabN(H:Hp)(tb:Addr)(n:Nat)(R:Int->List (Option Int)):Prop:=∃ as:List Addr,as.length=n/\H tb=some (.lst (as.map V.ref))/\(∀ a∈as,a≠tb)/\∀ (i:Nat) (h:i<as.length),H as[i]=some (.lst ((R i).map oI))
theorem TabN.tab{H:Hp}{tb:Addr}{n:Nat}{R:Int->List (Option Int)}(h:TabN H tb n R):TabAt H tb n R:=by
 obtain⟨as,al,h1,_,h2⟩:=h
 exact⟨as,al,h1,h2⟩
noncomputable def rIxQ:Bool->R2
 |false=>rIxLh
 |true=>rIxTh
theorem ix_Q{X:Cx}:∀ b:Bool,IxR X (rIxQ b)
 |false=>ix_listH
 |true=>ix_tupH
theorem rIxQ_of{b:Bool}{r:PySem.Addr}{xs:List V}{i:Int}{v:V}{H:Hp}{Q:VK}(h:H r=some (sqO b xs))(e:atI xs i=some v)(q:Q v H):rIxQ b (.ref r) (.int i) H Q:=by
 cases b
 ·exact⟨r,xs,i,v,rfl,rfl,h,e,q⟩
 ·exact⟨r,xs,i,v,rfl,rfl,h,e,q⟩
theorem ixN_nn{m:Nat}{k:Int}(k0:0<=k)(k1:k<m):ixN m k=some k.toNat:=by
 unfold ixN
 rw[if_pos k0,if_pos k1]
theorem atI_nn{as:List Addr}{k:Int}(k0:0<=k)(k1:k.toNat<as.length):atI (as.map V.ref) k=some (V.ref as[k.toNat]):=by
 have e:k=((k.toNat:Nat):Int):=by omega
 have:=atI_nat (xs:=as.map V.ref) (j:=k.toNat) (v:=V.ref as[k.toNat]) (by rw[List.getElem?_map,List.getElem?_eq_getElem k1];rfl)
 rw[<- e]at this
 exact this
theorem atI_ni{as:List Int}{k:Int}(k0:0<=k)(k1:k.toNat<as.length):atI (as.map V.int) k=some (V.int as[k.toNat]):=by
 have e:k=((k.toNat:Nat):Int):=by omega
 have:=atI_nat (xs:=as.map V.int) (j:=k.toNat) (v:=V.int as[k.toNat]) (by rw[List.getElem?_map,List.getElem?_eq_getElem k1];rfl)
 rw[<- e]at this
 exact this
theorem TabAt.row{H:Hp}{tb:Addr}{n:Nat}{R:Int->List (Option Int)}(h:TabAt H tb n R){k:Int}(k0:0<=k)(k1:k<n):∃ (as:List Addr) (a:Addr),H tb=some (.lst (as.map V.ref))/\atI (as.map V.ref) k=some (V.ref a)/\H a=some (.lst ((R k).map oI)):=by
 obtain⟨as,al,h1,h2⟩:=h
 have kl:k.toNat<as.length:=by omega
 have:=h2 _ kl
 rw[show((k.toNat:Nat):Int)=k by omega]at this
 exact⟨as,_,h1,atI_nn k0 kl,this⟩
theorem TabN.put{G:Hp}{tb r:Addr}{n:Nat}{R:Int->List (Option Int)}{v:Int}{row:List (Option Int)}(h:TabN G tb n R)(v0:0<=v)(v1:v<n)(hr:G r=some (.lst (row.map oI)))(ne:r≠tb) :
  ∃ xs:List V,G tb=some (.lst xs)/\ixN xs.length v=some v.toNat/\TabN (upd G tb (.lst (xs.set v.toNat (.ref r)))) tb n (fun u=>if u=v then row else R u):=by
 obtain⟨as,al,h1,h2,h3⟩:=h
 refine⟨_,h1,ixN_nn v0 (by rw[List.length_map,al];exact v1),as.set v.toNat r,by rw[List.length_set];exact al,by rw[upd_same,List.map_set],fun a ha=>?_,fun i hi=>?_⟩
 ·rcases List.mem_or_eq_of_mem_set ha with h | h
  ·exact h2 a h
  ·rw[h];exact ne
 ·rw[List.length_set]at hi
  rw[List.getElem_set]
  show _=some (HO.lst ((if(i:Int)=v then row else R i).map oI))
  by_cases z:v.toNat=i
  ·rw[if_pos z,if_pos (by omega),upd_ne ne]
   exact hr
  ·rw[if_neg z,if_neg (by omega),upd_ne (h2 _ (List.getElem_mem hi))]
   exact h3 i hi
theorem tabAt_to{G:Hp}{tb c:Addr}{n:Nat}{R:Int->List (Option Int)}{o:HO}(h:TabAt G tb n R)(hc:∀ xs,G c≠some (.lst xs)):TabAt (upd G c o) tb n R:=by
 obtain⟨as,al,h1,h2⟩:=h
 refine⟨as,al,by rw[upd_ne (fun z=>hc _ (z▸h1))];exact h1,fun i hi=>?_⟩
 rw[upd_ne (fun z=>hc _ (z▸h2 i hi))]
 exact h2 i hi
inductive spLtI(vs:List V)(H:Hp)(Q:VK):Prop where
 |mk (b:Bool) (t q:Addr) (n:Nat) (ties:List Tie) (ps:List Int) (L:List Ht) (h1:vs=[.ref t,.ref q]) (h2:WebAt H t n ties) (h3:(∀ x∈ties,TieOk n x)) (h4:n<=30) (h5:Hang n ties L) (h6:H q=some (sqO b (ps.map V.int))) (h7:ps≠[]) (h8:ps.length<=1000) (h9:∀ (r ow tb:Addr) (z:Int) (os:List Int) (R:Int->List (Option Int)) (H':Hp),H' r=some (.tup [.int z,.ref ow,.ref tb])->H' ow=some (.tup (os.map V.int))->TabAt H' tb n R->Tab n ps L R->z=mv ps (R 0) (ps.getD 0 0) 0->Same H H'->Q (.ref r) H')
noncomputable def spLt:Sp:=fun vs H Q _=>spLtI vs H Q
section
variable{P:Program}{w:World}{K:PySem.W.Frag}{mg:Str->Option Value}{base:Heap}
noncomputable abbrev nLt:List Str:=["web","posts","behind","table","place","weight","first","owners","nexts","far","heavy"]
theorem scLt:FnScope nLt ["web","posts"] (defScope sLeastOnTree):=⟨rfl,rfl,rfl,by decide +kernel,rfl,by decide +kernel,by decide +kernel⟩
theorem csLt1:CompScope ["place"] [none] nLt (defScope sLeastOnTree) (scO [(".0",.local),("place",.local)]):=⟨rfl,by decide +kernel,by decide +kernel,by decide +kernel,rfl,capB_ok (by decide +kernel)⟩
theorem ndLt1:(["place"]:List Str).Nodup:=by decide +kernel
theorem csLt2:CompScope ["place","first"] [none,some 6] nLt (defScope sLeastOnTree) (scO [(".0",.local),("place",.local),("first",.free)]):=⟨rfl,by decide +kernel,by decide +kernel,by decide +kernel,rfl,capB_ok (by decide +kernel)⟩
theorem ndLt2:(["place","first"]:List Str).Nodup:=by decide +kernel
theorem ok_lt{f gb gw gl:Addr}{fd db dw dl:FuncData}(F:Fun K "least_on_tree" "least_on_tree" sLeastOnTree f fd)(T:Txt mg)(TR:mg "reversed" = none)(GB:CalF P w K mg base 2 "behind_each" ["web"] spBe gb db)(GW:CalF P w K mg base 2 "weights_behind" ["posts","place","nexts","table"] spWb gw dw)(GL:CalF P w K mg base 1 "least_of" ["posts","row","owner","heavy"] spLo gl dl):FnOk P w K mg base CX0 3 f fd ["web","posts"] spLt:=by
 refine F.ok scLt (fun vs H Q E h=>?_) (fun cdv A outer s H vs Q E hr h=>?_)
 ·obtain⟨b,t,q,n,ties,ps,L,rfl,_⟩:=h
  rfl
 ·obtain⟨b,t,q,n,ties,ps,L,rfl,W,ok,n30,HG,gq,pne,pl,fin⟩:=h
  have hr2:Room 2 _:=hr
  have hr1:Room 1 _:=hr.mono (by decide)
  have hu:_+1<cLine:=Nat.lt_of_le_of_lt (Nat.add_le_add_left (show 1<=64 by decide) _) hr.units
  have n1:=HG.n1
  refine⟨_,(pss_cons (ps_set (i:=2) scLt.nd rfl (Or.inl rfl) (pe_call GB.ok hr2 rfl GB.mg GB.kp GB.bd .nil pass0 (@pa_nam _ _ _ _ _ _ (pv 0) pa_nil)))
   (pss_cons (ps_comp (i:=3) scLt.nd rfl (Or.inl rfl) rfl csLt1 (pi_range1 rfl T.range (@pa_sub _ _ _ _ _ _ _ (@pe_ix _ _ _ _ _ _ _ ix_tupH (pv 0) pe_int (fun _ _=>rfl)) pa_nil)) (fun C s H fp=>(pg_name (i:=0) ndLt1 rfl (Or.inl rfl))) (fun C s H fp=>pf_nil) (fun C s H fp=>(@pe_lst _ _ _ _ pa_nil)))
   (pss_cons (ps_for PassesOwn.never rfl (pi_rev (by rfl) TR (@pa_call _ _ _ _ _ _ _ _ (pe_callTy (call_listK rfl) (by rfl) T.list boot_list (@pa_nam _ _ _ _ _ _ (pv 2) pa_nil)) pa_nil)) (pg_name (i:=4) scLt.nd rfl (Or.inl rfl))
   (pss_one (ps_asg (pe_call GW.ok hr2 rfl GW.mg GW.kp GW.bd .nil pass0 (@pa_nam _ _ _ _ _ _ (pv 1) (@pa_nam _ _ _ _ _ _ (pv 4) (@pa_sub _ _ _ _ _ _ _ (pe_dget hu (pv 2) (pv 4) (fun _ _=>rfl)) (@pa_nam _ _ _ _ _ _ (pv 3) pa_nil))))) (pg_sub (pv 3) (pv 4) set_list))))
   (pss_cons (ps_asg (pe_call GL.ok hr1 rfl GL.mg GL.kp GL.bd .nil pass0 (@pa_nam _ _ _ _ _ _ (pv 1) (@pa_sub _ _ _ _ _ _ _ (@pe_ix _ _ _ _ _ _ _ ix_listH (pv 3) pe_int (fun _ _=>rfl)) (@pa_sub _ _ _ _ _ _ _ (@pe_ix _ _ _ _ _ _ _ (ix_Q b) (pv 1) pe_int (fun _ _=>rfl)) (@pa_cst _ _ _ _ _ _ _ pe_int pa_nil))))) (pg_tup (n:=2) rfl (pgs_cons (pg_name (i:=5) scLt.nd rfl (Or.inl rfl)) (pgs_cons (pg_name (i:=6) scLt.nd rfl (Or.inr rfl)) pgs_nil))))
   (pss_cons (ps_comp (i:=7) scLt.nd rfl (Or.inl rfl) rfl csLt2 (pi_range1 rfl T.range (@pa_sub _ _ _ _ _ _ _ (@pe_ix _ _ _ _ _ _ _ ix_tupH (pv 0) pe_int (fun _ _=>rfl)) pa_nil)) (fun C s H fp=>(pg_name (i:=0) ndLt2 rfl (Or.inl rfl))) (fun C s H fp=>pf_nil) (fun C s H fp=>(pv 1)))
   (pss_cons (ps_for PassesOwn.never rfl (pi_items (pv 2)) (pg_tup (n:=2) rfl (pgs_cons (pg_name (i:=4) scLt.nd rfl (Or.inl rfl)) (pgs_cons (pg_name (i:=8) scLt.nd rfl (Or.inl rfl)) pgs_nil)))
   (pss_one (ps_for PassesOwn.never rfl (pi_list (pv 8)) (pg_tup (n:=2) rfl (pgs_cons (pg_name (i:=9) scLt.nd rfl (Or.inl rfl)) (pgs_cons (pg_name (i:=10) scLt.nd rfl (Or.inl rfl)) pgs_nil)))
   (pss_one (ps_asg (@pe_ix _ _ _ _ _ _ _ ix_tupH (pe_call GL.ok hr1 rfl GL.mg GL.kp GL.bd .nil pass0 (@pa_nam _ _ _ _ _ _ (pv 1) (@pa_sub _ _ _ _ _ _ _ (@pe_ix _ _ _ _ _ _ _ ix_listH (pv 3) (pv 9) (fun _ _=>rfl)) (@pa_sub _ _ _ _ _ _ _ (@pe_ix _ _ _ _ _ _ _ ix_listH (pv 7) (pv 4) (fun _ _=>rfl)) (@pa_nam _ _ _ _ _ _ (pv 10) pa_nil))))) pe_int (fun _ _=>rfl)) (pg_sub (pv 7) (pv 9) set_list))))))
   (pss_one (ps_ret (@pe_tup _ _ _ _ _ (@pa_nam _ _ _ _ _ _ (pv 5) (@pa_call _ _ _ _ _ _ _ _ (pe_callTy call_tupleH (by rfl) T.tuple boot_tuple (@pa_nam _ _ _ _ _ _ (pv 7) pa_nil)) (@pa_nam _ _ _ _ _ _ (pv 3) pa_nil)))))))))))),?_⟩
  obtain⟨⟨ts,was,w1,w2,w3⟩,tl⟩:=id W
  refine⟨_,rfl,t,n,ties,L,rfl,W,ok,n30,HG,fun d wl D ad B H1 hd gd bh M pk s1=>?_⟩
  obtain⟨Dn,Dl,Drg,D0⟩:=Hng.met_end HG M
  refine⟨_,rfl,t,_,_,_,rfl,rfl,s1 _ _ w1,atI_nat (j:=0) rfl,_,rfl,by omega,by omega,?_⟩
  rw[show((n:Int)).toNat=n by omega]
  refine comp_range (lo:=0) (n:=n) (fun i zs G=>Same H1 G/\∃ as:List Addr,zs=as.map V.ref/\as.length=i/\∀ a∈as,G a=some (.lst [])) (by rw[sizeLine_eq];omega) ⟨Same.refl _,[],rfl,rfl,(fun _ h=>nomatch h)⟩ ?_ ?_
  ·rintro i zs G hi ⟨sG,as,rfl,al,ga⟩
   refine⟨trivial,tTru_if ⟨(by show 0<=sizeLine;decide),fun c hc=>?_⟩⟩
   have sc:=Same.new (o:=.lst []) hc
   refine⟨sG.trans sc,as++[c],by rw[List.map_append];rfl,by rw[List.length_append,al];rfl,fun a ha=>?_⟩
   rcases List.mem_append.mp ha with h | h
   ·exact sc _ _ (ga a h)
   ·rw[List.mem_singleton.mp h];exact upd_same
  rintro zs H2 _ ⟨s2,as,rfl,al,ga⟩ tb htb
  have stb:=Same.new (o:=.lst (as.map V.ref)) htb
  have TN0:TabN (upd H2 tb (.lst (as.map V.ref))) tb n (fun _=>[]):=⟨as,al,upd_same,fun a ha z=>(by have:=ga a ha;rw[z,htb]at this;cases this),fun i hi=>stb _ _ (ga _ (List.getElem_mem hi))⟩
  have sH2:Same H H2:=s1.trans s2
  have gd2:=s2 _ _ gd
  have nx2:∀ v∈D,NxAt H2 (ad v) (B v):=fun v hv=>(bh v hv).2.same s2
  have kl:∀ v∈D,(B v).length<=1000:=fun v hv=>by
   rw[(pk v hv).length_eq]
   unfold kids
   rw[List.length_map]
   have:=List.length_filter_le (fun h=>decide (h.2.1=v)) L
   have:=HG.len
   omega
  have keys:(dkv D ad).map (·.1)=D.map Sum.inl:=by
   unfold dkv
   rw[List.map_map]
   rfl
  refine⟨_,rfl,d,_,D,rfl,stb _ _ gd2,keys,fun l hl=>⟨l,_,rfl,SqL.of upd_same,?_⟩⟩
  have sl:=Same.new (o:=.lst (D.map V.int)) hl
  have ltb:l≠tb:=fun z=>by rw[z,upd_same]at hl;cases hl
  have l2:H2 l=none:=stb.free hl
  refine for_rev (K:=K) (a:=l) (xs:=D.map V.int) (fun i σ G=>∃ (R:Int->List (Option Int)) (v4:Option V),σ=[some (.ref t),some (.ref q),some (.ref d),some (.ref tb),v4,none,none,none,none,none,none]/\Same H2 G/\G l=some (.lst (D.map V.int))/\TabN G tb n R/\Told ps L D R (n-i)) ⟨fun _=>[],none,rfl,stb.trans sl,upd_same,?_,fun j hj hle=>?_⟩ (fun i σ G _ z=>by obtain⟨_,_,_,_,g,_⟩:=z;exact SqL.of g) ?_ ?_
  ·obtain⟨as',a1,a2,a3,a4⟩:=TN0
   exact⟨as',a1,sl _ _ a2,a3,fun i hi=>sl _ _ (a4 i hi)⟩
  ·omega
  ·rintro i x σ G hx ⟨R,v4,rfl,sG,gl,TN,TD⟩
   obtain⟨il,ex⟩:=List.getElem?_eq_some_iff.mp hx
   rw[List.length_reverse,List.length_map]at il
   rw[List.getElem_reverse,List.getElem_map]at ex
   have kD:D.length-1-i<D.length:=by omega
   have ex:V.int D[D.length-1-i]=x:=by
    rw[<- ex]
    congr 2
    rw[List.length_map]
   subst ex
   have ek:n-i=(D.length-1-i)+1:=by omega
   rw[ek]at TD
   have pkv:=pk _ (List.getElem_mem kD)
   have okv:=Hng.told_ok HG M kD TD pne pkv
   have stp:=Hng.told_step HG M kD TD pkv
   have vm:=List.getElem_mem kD
   obtain⟨v0,v1⟩:=Drg _ vm
   rw[show n-(i+1)=D.length-1-i by omega]
   generalize D.length-1-i=k at *
   generalize D[k]=v at *
   refine⟨_,rfl,_,rfl,_,rfl,_,rfl,d,.ref (ad v),rfl,?_,_,rfl,b,q,ad v,tb,ps,v,B v,n,R,rfl,(sH2.trans sG) _ _ gq,(nx2 v vm).same sG,TN.tab,pl,kl v vm,okv,fun r G2 gr s3 hr'=>?_⟩
   ·have:=DGet.k (k:=Sum.inl v) (sG _ _ gd2)
    rw[dkv_val,if_pos vm]at this
    exact this
   have gtb:∃ xs,G tb=some (.lst xs):=by obtain⟨_,_,h,_⟩:=TN;exact⟨_,h⟩
   have rtb:r≠tb:=fun z=>by obtain⟨_,h⟩:=gtb;rw[z,h]at hr';cases hr'
   have TN2:TabN G2 tb n R:=by
    obtain⟨as',a1,a2,a3,a4⟩:=TN
    exact⟨as',a1,s3 _ _ a2,a3,fun i hi=>s3 _ _ (a4 i hi)⟩
   obtain⟨xs,g1,g2,TN3⟩:=TN2.put v0 v1 gr rtb
   refine⟨_,rfl,_,rfl,tb,xs,v,v.toNat,rfl,rfl,g1,g2,?_⟩
   exact⟨_,_,rfl,same_put (sG.trans s3) htb,by rw[upd_ne ltb];exact s3 _ _ gl,TN3,stp⟩
  ·rintro σ G ⟨R,v4,rfl,sG,gl,TN,TD⟩
   rw[List.length_map,Dl,Nat.sub_self]at TD
   have TB:=Hng.told_tab HG M TD
   have TA:=TN.tab
   have sHG:=sH2.trans sG
   obtain⟨as0,a0,g1,g2,g3⟩:=TA.row (k:=0) (Int.le_refl _) (by omega)
   have p0:atI (ps.map V.int) 0=some (V.int (ps.getD 0 0)):=by
    cases ps with
    |nil=>exact absurd rfl pne
    |cons a l=>exact atI_nat (j:=0) rfl
   have r0:=TB 0 (Int.le_refl _) (by omega)
   have rl:∀ v:Int,0<=v->v<n->(R v).length=ps.length/\∀ o w,lo ps (R v) o w≠[]:=fun v v0 v1=>by
    have:=TB v v0 v1
    refine⟨by rw[this];unfold rowOf;rw[List.length_map],fun o w=>?_⟩
    rw[this]
    exact Hng.lo_ne pne
   refine⟨_,rfl,_,rfl,tb,_,_,_,rfl,rfl,g1,g2,_,rfl,rIxQ_of (sHG _ _ gq) p0 ⟨b,q,a0,ps,R 0,ps.getD 0 0,0,rfl,sHG _ _ gq,g3,pl,(rl 0 (Int.le_refl _) (by omega)).1,(rl 0 (Int.le_refl _) (by omega)).2 _ _,fun pa z G2 gz mz lz s3=>?_⟩⟩
   have ez:=lo_mv mz lz
   refine⟨pa,_,rfl,SqT.of gz,rfl,_,_,rfl,_,_,rfl,rfl,?_⟩
   have sH3:=sHG.trans s3
   refine⟨_,rfl,t,_,_,_,rfl,rfl,sH3 _ _ w1,atI_nat (j:=0) rfl,_,rfl,by omega,by omega,?_⟩
   rw[show((n:Int)).toNat=n by omega]
   refine comp_range (lo:=0) (n:=n) (fun i zs G3=>Same G2 G3/\zs=(List.replicate i z.2).map V.int) (by rw[sizeLine_eq];omega) ⟨Same.refl _,rfl⟩ ?_ ?_
   ·rintro i zs G3 hi ⟨s4,rfl⟩
    refine⟨⟨rfl,trivial⟩,tTru_if ⟨_,rfl,s4,?_⟩⟩
    rw[List.replicate_succ',List.map_append]
    rfl
   rintro zs G3 _ ⟨s4,rfl⟩ ow how
   have sow:=Same.new (o:=.lst ((List.replicate n z.2).map V.int)) how
   have s24:=s3.trans s4
   have gd3:=(sG.trans s24) _ _ gd2
   refine⟨_,rfl,d,_,rfl,sow _ _ gd3,fun ob=>?_⟩
   have nod:ow≠d:=fun y=>by rw[y,gd3]at how;cases how
   have hd0:H d=none:=hd
   obtain⟨C,sC,sHC,Co,Cd,CT,Cn⟩:∃ C:Hp,Same C (upd (upd G3 ow (.lst ((List.replicate n z.2).map V.int))) d (.frz ob (.dK (dkv D ad))))/\Same H C/\C ow=none/\C d=some (.frz ob (.dK (dkv D ad)))/\TabAt C tb n R/\∀ v∈D,NxAt C (ad v) (B v):=by
    refine⟨upd G3 d (.frz ob (.dK (dkv D ad))),fun c o e=>?_,same_put (sHG.trans s24) hd0,by rw[upd_ne nod];exact how,upd_same,tabAt_to (TA.same s24) (fun xs e=>by rw[gd3]at e;cases e),fun v hv=>((nx2 v hv).same (sG.trans s24)).to (fun xs e=>by rw[gd3]at e;cases e) (fun e=>?_) rfl⟩
    ·by_cases y:c=d
     ·rw[y,upd_same]at e ⊢
      exact e
     ·rw[upd_ne y]at e ⊢
      exact sow _ _ e
    ·obtain⟨ns,h1,_⟩:=(nx2 v hv).same (sG.trans s24)
     rw[e,gd3]at h1
     cases h1
   have go0:(upd (upd G3 ow (.lst ((List.replicate n z.2).map V.int))) d (.frz ob (.dK (dkv D ad)))) ow=some (.lst ((List.replicate n z.2).map V.int)):=by rw[upd_ne nod];exact upd_same
   generalize (upd (upd G3 ow (.lst ((List.replicate n z.2).map V.int))) d (.frz ob (.dK (dkv D ad))))=G4 at sC go0
   have dlen:(dkv D ad).length=D.length:=by unfold dkv;rw[List.length_map]
   refine for_it (d:=d) (o:=ob) (kvs:=dkv D ad) (fun i σ G=>Ex5 fun(os:List Int) (v4 v8 v9 v10:Option V)=>σ=[some (.ref t),some (.ref q),some (.ref d),some (.ref tb),v4,some (.int z.1),some (.int z.2),some (.ref ow),v8,v9,v10]/\Same C G/\G ow=some (.lst (os.map V.int))/\os.length=n) ⟨_,_,_,_,_,rfl,sC,go0,List.length_replicate⟩ (fun i σ G _ y=>by obtain⟨_,_,_,_,_,_,s,_⟩:=y;exact s _ _ Cd) ?_ ?_
   ·rintro i kv σ G5 T' hkv ⟨os,v4,v8,v9,v10,rfl,s5,go,ol⟩ hT
    obtain⟨il,ekv⟩:=List.getElem?_eq_some_iff.mp hkv
    rw[dlen]at il
    have ekv:kv=(Sum.inl D[i],V.ref (ad D[i])):=by
     have:(dkv D ad)[i]?=some (Sum.inl D[i],V.ref (ad D[i])):=by
      unfold dkv
      rw[List.getElem?_map,List.getElem?_eq_getElem il]
      rfl
     rw[hkv]at this
     injection this
    subst ekv
    have vm:=List.getElem_mem il
    obtain⟨v0,v1⟩:=Drg _ vm
    obtain⟨ns,gn,pn⟩:=Cn _ vm
    have okx:∀ x∈B D[i],0<=x.1/\x.1<n:=fun x hx=>by
     obtain⟨g,hg,_,e2,_⟩:=Hng.kid_of ((pk _ vm).mem_iff.mp hx)
     rw[<- e2]
     exact HG.rg g hg
    have kli:=kl _ vm
    generalize D[i]=v at *
    have sT:=Same.new (o:=.tup [.int v,.ref (ad v)]) hT
    have nl:=pn.length
    refine⟨T',_,rfl,SqT.of upd_same,rfl,_,_,rfl,_,_,rfl,rfl,?_⟩
    refine⟨_,rfl,ad v,rfl,⟨_,SqL.of (sT _ _ (s5 _ _ gn))⟩,?_⟩
    refine for_list (K:=K) (a:=ad v) (xs:=ns.map V.ref) (fun j σ G=>Ex3 fun(os:List Int) (v9 v10:Option V)=>σ=[some (.ref t),some (.ref q),some (.ref d),some (.ref tb),some (.int v),some (.int z.1),some (.int z.2),some (.ref ow),some (.ref (ad v)),v9,v10]/\Same C G/\G ow=some (.lst (os.map V.int))/\os.length=n) ⟨os,_,_,rfl,s5.trans sT,sT _ _ go,ol⟩ (fun j σ G _ y=>by obtain⟨_,_,_,_,s,_⟩:=y;exact SqL.of (s _ _ gn)) ?_ ?_
    ·clear go ol s5
     rintro j x σ G6 hx ⟨os,v9,v10,rfl,s6,go,ol⟩
     obtain⟨jl,ex⟩:=List.getElem?_eq_some_iff.mp hx
     rw[List.length_map]at jl
     rw[List.getElem_map]at ex
     subst ex
     have jk:j <(B v).length:=by omega
     have gx:=s6 _ _ (Paired.at pn j jl jk)
     obtain⟨f0,f1⟩:=okx _ (List.getElem_mem jk)
     generalize (B v)[j]=y at *
     generalize ns[j]=na at *
     obtain⟨as1,a1,h1,h2,h3⟩:=(CT.same s6).row f0 f1
     refine⟨na,_,rfl,SqT.of gx,rfl,_,_,rfl,_,_,rfl,rfl,?_⟩
     refine⟨_,rfl,_,rfl,_,rfl,tb,_,_,_,rfl,rfl,h1,h2,_,rfl,_,rfl,ow,_,_,_,rfl,rfl,go,atI_ni v0 (by omega),_,rfl,b,q,a1,ps,R y.1,os[v.toNat]'(by omega),y.2,rfl,(sHC.trans s6) _ _ gq,h3,pl,(rl _ f0 f1).1,(rl _ f0 f1).2 _ _,fun pa2 z2 G7 gz2 _ _ s7=>?_⟩
     refine⟨pa2,_,_,_,rfl,rfl,gz2,atI_nat (j:=1) rfl,_,rfl,_,rfl,ow,_,_,y.1.toNat,rfl,rfl,s7 _ _ go,ixN_nn f0 (by rw[List.length_map,ol];exact f1),?_⟩
     exact⟨os.set y.1.toNat z2.2,_,_,rfl,same_put (s6.trans s7) Co,by rw[upd_same,List.map_set],by rw[List.length_set];exact ol⟩
    ·rintro σ G6 ⟨os,v9,v10,rfl,s6,go,ol⟩
     exact⟨os,_,_,_,_,rfl,s6,go,ol⟩
   ·rintro σ G5 ⟨os,v4,v8,v9,v10,rfl,s5,go,ol⟩
    refine⟨_,rfl,_,rfl,ow,_,rfl,go,fun tu htu=>⟨_,rfl,(by show 3<=sizeLine;decide),fun r hr=>?_⟩⟩
    have st:=Same.new (o:=.tup (os.map V.int)) htu
    have sr:=Same.new (o:=.tup [.int z.1,.ref tu,.ref tb]) hr
    exact fin r tu tb z.1 os R _ upd_same (sr _ _ upd_same) (CT.same (s5.trans (st.trans sr))) TB ez (sHC.trans (s5.trans (st.trans sr)))
end
open PySem L2 PyProof.Rows
noncomputable def prs(ties:List Tie):List (Int×Int):=ties.map fun x=>(x.1,x.2.1)
noncomputable def tied(ps:List (Int×Int))(l:List Int)(p:Int):Prop:=∃ x∈ps,(x.1=p/\x.2∈l)\/(x.2=p/\x.1∈l)
open Classical in
noncomputable def tiedB(ps:List (Int×Int))(l:List Int)(p:Int):Bool:=decide (tied ps l p)
open Classical in
theorem tiedB_iff{ps:List (Int×Int)}{l:List Int}{p:Int}:tiedB ps l p=true↔tied ps l p:=by
 unfold tiedB
 rw[decide_eq_true_eq]
noncomputable def openAt(ps:List (Int×Int))(ord:List Int)(a:Nat):List Int:=(ord.take (a+1)).filter (tiedB ps (ord.drop (a+1)))
noncomputable def lens(ps:List (Int×Int))(ord:List Int):List Int:=(List.range ord.length).map fun a=>(((openAt ps ord a).length:Nat):Int)
theorem nodup_le{α:Type}[DecidableEq α]:∀ {l m:List α},l.Nodup->(∀ x∈l,x∈m)->l.length<=m.length
 |[],m,_,_=>Nat.zero_le _
 |x :: l,m,nd,h=>by
  have hx:=h x (List.mem_cons_self ..)
  obtain⟨n1,n2⟩:=List.nodup_cons.mp nd
  have ih:=nodup_le (m:=m.erase x) n2 fun y hy=>(List.mem_erase_of_ne (fun z:y=x=>n1 (z▸hy))).mpr (h y (List.mem_cons_of_mem _ hy))
  rw[List.length_erase_of_mem hx]at ih
  have:0<m.length:=List.length_pos_of_mem hx
  rw[List.length_cons]
  omega
theorem nub_nodup(ns:List Int):(nub ns).Nodup:=(nubF_spec ns [] List.nodup_nil).1
theorem count_open{ps:List (Int×Int)}{ord S:List Int}{a:Nat}(nd:ord.Nodup)(rg:∀ x∈ps,x.1∈ord/\x.2∈ord)(hS:∀ p,p∈S↔tied ps (ord.drop (a+1)) p/\p∉ord.drop (a+1)):(nub S).length=(openAt ps ord a).length:=by
 have mem:∀ p,p∈nub S↔p∈openAt ps ord a:=fun p=>by
  rw[mem_nub,hS]
  unfold openAt
  rw[List.mem_filter,tiedB_iff]
  have split:∀ {q},q∈ord↔q∈ord.take (a+1)\/q∈ord.drop (a+1):=fun {q}=>by
   rw[<- List.mem_append,List.take_append_drop]
  have dis:∀ q,q∈ord.take (a+1)->q∉ord.drop (a+1):=fun q h1 h2=>by
   rw[<- List.take_append_drop (a+1) ord]at nd
   exact(List.nodup_append.mp nd).2.2 q h1 q h2 rfl
  refine⟨fun⟨h1,h2⟩=>⟨?_,h1⟩,fun⟨h1,h2⟩=>⟨h2,dis p h1⟩⟩
  obtain⟨x,hx,h⟩:=h1
  have hp:p∈ord:=by
   rcases h with⟨e,_⟩ |⟨e,_⟩
   ·rw[<- e];exact(rg x hx).1
   ·rw[<- e];exact(rg x hx).2
  exact(split.mp hp).resolve_right h2
 have n2:(openAt ps ord a).Nodup:=(nd.sublist (List.take_sublist _ _)).sublist List.filter_sublist
 exact Nat.le_antisymm (nodup_le (nub_nodup S) fun x hx=>(mem x).mp hx) (nodup_le n2 fun x hx=>(mem x).mpr hx)
theorem lens_at{ps:List (Int×Int)}{ord:List Int}{a:Nat}(h:a<ord.length):(((openAt ps ord a).length:Nat):Int)∈lens ps ord:=List.mem_map.mpr ⟨a,List.mem_range.mpr h,rfl⟩
theorem lens_of{ps:List (Int×Int)}{ord:List Int}{x:Int}(h:x∈lens ps ord):∃ a,a<ord.length/\x=(((openAt ps ord a).length:Nat):Int):=by
 obtain⟨a,ha,e⟩:=List.mem_map.mp h
 exact⟨a,List.mem_range.mp ha,e.symm⟩
theorem mem_upto'{n:Nat}{x:Int}:x∈upto n↔0<=x/\x<n:=by
 unfold upto
 rw[List.mem_map]
 constructor
 ·rintro⟨i,hi,e⟩
  have:=List.mem_range.mp hi
  omega
 ·rintro⟨h0,h1⟩
  exact⟨x.toNat,List.mem_range.mpr (by omega),by omega⟩
open PySem L2 PyProof.Rows
theorem putK_len{kvs:List (Key×V)}{k:Key}{v:V}:(putK kvs k v).length<=kvs.length+1:=by
 unfold putK
 split
 ·rw[List.length_map];omega
 ·rw[List.length_append];simp
noncomputable def cm(ord:List Int)(p:Int):Int:=((ord.idxOf p:Nat):Int)
theorem get_inj{l:List Int}(nd:l.Nodup){i j:Nat}{hi:i<l.length}{hj:j<l.length}(e:l[i]=l[j]):i=j:=by
 rcases Nat.lt_trichotomy i j with h | h | h
 ·exact absurd e (List.pairwise_iff_getElem.mp nd i j hi hj h)
 ·exact h
 ·exact absurd e.symm (List.pairwise_iff_getElem.mp nd j i hj hi h)
theorem idx_at:∀ {l:List Int},l.Nodup->∀ {j:Nat} (h:j<l.length),l.idxOf l[j]=j
 |[],_,_,h=>absurd h (by simp)
 |x :: l,nd,0,_=>by simp[List.idxOf_cons]
 |x :: l,nd,j+1,h=>by
  have hj:j<l.length:=by simpa using h
  obtain⟨n1,n2⟩:=List.nodup_cons.mp nd
  have ne:(x == l[j])=false:=by
   rw[beq_eq_false_iff_ne]
   exact fun e=>n1 (e▸List.getElem_mem hj)
  rw[List.getElem_cons_succ,List.idxOf_cons,ne,idx_at n2 hj]
  rfl
theorem cm_at{ord:List Int}(nd:ord.Nodup){j:Nat}(h:j<ord.length):cm ord ord[j]=j:=by
 unfold cm
 rw[idx_at nd h]
theorem cm_drop{ord:List Int}(nd:ord.Nodup){q:Int}(hq:q∈ord)(i:Nat):(i:Int)<cm ord q↔q∈ord.drop (i+1):=by
 obtain⟨j,hj,e⟩:=List.getElem_of_mem hq
 rw[<- e,cm_at nd hj]
 constructor
 ·intro h
  rw[List.mem_drop_iff_getElem]
  exact⟨j-(i+1),by omega,by congr 1;omega⟩
 ·intro h
  rw[List.mem_drop_iff_getElem]at h
  obtain⟨k,hk,e2⟩:=h
  have:i+1+k=j:=get_inj nd e2
  omega
noncomputable def LI(ord:List Int)(n:Nat)(ps:List (Int×Int))(kl:List (Key×V)):Prop:=∀ p:Int,0<=p->p<n->∃ v:Int,valV kl (Sum.inl p)=some (.int v)/\∀ a:Nat,(a:Int)<v↔(a:Int)<cm ord p\/∃ x∈ps,(x.1=p/\(a:Int)<cm ord x.2)\/(x.2=p/\(a:Int)<cm ord x.1)
theorem mx_lt{u v a:Int}:a <(if v > u then v else u)↔a<u\/a<v:=by
 split <;> omega
theorem LI.put{ord:List Int}{n:Nat}{ps:List (Int×Int)}{kl:List (Key×V)}(h:LI ord n ps kl){A B va vb:Int}(ab:A≠B)(ha:valV kl (Sum.inl A)=some (.int va))(hb:valV kl (Sum.inl B)=some (.int vb)) :
  LI ord n (ps++[(A,B)]) (putK (putK kl (Sum.inl A) (.int (if cm ord B > va then cm ord B else va))) (Sum.inl B) (.int (if cm ord A > vb then cm ord A else vb))):=fun p p0 p1=>by
 obtain⟨v,hv,iff⟩:=h p p0 p1
 have ex:∀ (a:Nat),(∃ x∈ps++[(A,B)],(x.1=p/\(a:Int)<cm ord x.2)\/(x.2=p/\(a:Int)<cm ord x.1))↔(∃ x∈ps,(x.1=p/\(a:Int)<cm ord x.2)\/(x.2=p/\(a:Int)<cm ord x.1))\/(A=p/\(a:Int)<cm ord B)\/(B=p/\(a:Int)<cm ord A):=fun a=>by
  constructor
  ·rintro⟨x,hx,h⟩
   rcases List.mem_append.mp hx with hx | hx
   ·exact .inl ⟨x,hx,h⟩
   ·rw[List.mem_singleton.mp hx]at h
    exact .inr h
  ·rintro(⟨x,hx,h⟩ | h)
   ·exact⟨x,List.mem_append_left _ hx,h⟩
   ·exact⟨(A,B),List.mem_append_right _ (List.mem_cons_self ..),h⟩
 have key:∀ {a b:Int},(Sum.inl a:Key)=Sum.inl b↔a=b:=fun {a b}=>⟨fun z=>by injection z,fun z=>by rw[z]⟩
 rw[valV_put,valV_put]
 by_cases e1:p=B
 ·subst e1
  rw[if_pos rfl]
  rw[hb]at hv
  cases hv
  refine⟨_,rfl,fun a=>?_⟩
  rw[mx_lt,iff,ex]
  constructor
  ·rintro((h | h) | h)
   ·exact .inl h
   ·exact .inr (.inl h)
   ·exact .inr (.inr (.inr ⟨rfl,h⟩))
  ·rintro(h | h |⟨h,_⟩ |⟨_,h⟩)
   ·exact .inl (.inl h)
   ·exact .inl (.inr h)
   ·exact absurd h ab
   ·exact .inr h
 ·rw[if_neg (fun z=>e1 (key.mp z))]
  by_cases e2:p=A
  ·subst e2
   rw[if_pos rfl]
   rw[ha]at hv
   cases hv
   refine⟨_,rfl,fun a=>?_⟩
   rw[mx_lt,iff,ex]
   constructor
   ·rintro((h | h) | h)
    ·exact .inl h
    ·exact .inr (.inl h)
    ·exact .inr (.inr (.inl ⟨rfl,h⟩))
   ·rintro(h | h |⟨_,h⟩ |⟨h,_⟩)
    ·exact .inl (.inl h)
    ·exact .inl (.inr h)
    ·exact .inr h
    ·exact absurd h.symm e1
  ·rw[if_neg (fun z=>e2 (key.mp z))]
   refine⟨v,hv,fun a=>?_⟩
   rw[iff,ex]
   constructor
   ·rintro(h | h)
    ·exact .inl h
    ·exact .inr (.inl h)
   ·rintro(h | h |⟨h,_⟩ |⟨h,_⟩)
    ·exact .inl h
    ·exact .inr h
    ·exact absurd h.symm e2
    ·exact absurd h.symm e1
inductive spOBI(vs:List V)(H:Hp)(Q:VK):Prop where
 |mk (b:Bool) (t od:Addr) (n:Nat) (ties:List Tie) (ord:List Int) (h1:vs=[.ref t,.ref od]) (h2:n<=30) (h3:WebAt H t n ties) (h4:(∀ x∈ties,TieOk n x)) (h5:SIs b H od (ord.map V.int)) (h6:ord.Perm (upto n)) (h7:∀ l ls H',H' l=some (.lst (List.map V.ref ls))->Paired (fun a (i:Nat)=>H' a=some (.lst ((openAt (prs ties) ord i).map V.int))) ls (List.range n)->Same H H'->Q (.ref l) H')
noncomputable def spOB:Sp:=fun vs H Q _=>spOBI vs H Q
section
variable{P:Program}{w:World}{K:PySem.W.Frag}{mg:Str->Option Value}{base:Heap}
noncomputable abbrev nOB:List Str:=["web","order","comes","last","a","b","weight"]
theorem scOB:FnScope nOB ["web","order"] (defScope sOpenBehind):=⟨rfl,rfl,rfl,by decide +kernel,rfl,by decide +kernel,by decide +kernel⟩
theorem csD:CompScope ["at","place"] [none,none] nOB (defScope sOpenBehind) (scO [(".0",.local),("at",.local),("place",.local)]):=⟨rfl,by decide +kernel,by decide +kernel,by decide +kernel,rfl,capB_ok (by decide +kernel)⟩
theorem ndD:(["at","place"]:List Str).Nodup:=by decide +kernel
theorem csO:CellScope "at" ["at","last","order"] [none,some 3,some 1] nOB (defScope sOpenBehind) (scO [(".0",.local),("at",.cell),("last",.free),("order",.free)]):=⟨rfl,fun _ _=>rfl,fun _=>rfl,by decide +kernel,by decide +kernel,by decide +kernel,by decide +kernel,rfl,capB_ok (by decide +kernel)⟩
theorem ndO:(["at","last","order"]:List Str).Nodup:=by decide +kernel
theorem csI:CompScope ["place","at","last"] [none,some 0,some 1] ["at","last","order"] (scO [(".0",.local),("at",.cell),("last",.cell),("order",.cell)]) (scO [(".0",.local),("place",.local),("at",.free),("last",.free)]):=⟨rfl,by decide +kernel,by decide +kernel,by decide +kernel,rfl,capB_ok (by decide +kernel)⟩
theorem ndI:(["place","at","last"]:List Str).Nodup:=by decide +kernel
noncomputable abbrev teI(b:Bool)(K:PySem.W.Frag):TE:=tComp [none,some 0,some 1] (iSeq b K (tSl (rSlB b) (tVar 2) tNoPart (tPart (tOp (rI0 fun i j=>.int (i+j)) (tVar 0) (tC (.int 1)))))) (gName 0) (tTest (tOp (rI0 fun i j=>.bl (decide (j<i))) (tDGet (tVar 2) (tVar 0)) (tVar 1))) (tVar 0)
theorem ok_ob{f:Addr}{fd:FuncData}(F:Fun K "open_behind" "open_behind" sOpenBehind f fd)(T:Txt mg)(T2:Txt2 mg):FnOk P w K mg base CX0 1 f fd ["web","order"] spOB:=by
 refine F.ok scOB (fun vs H Q E h=>?_) (fun cdv A outer s H vs Q E hr h=>?_)
 ·obtain⟨b,t,od,n,ties,ord,rfl,_⟩:=h
  rfl
 ·obtain⟨b,t,od,n,ties,ord,rfl,n30,W,ok,gO,pm,q⟩:=h
  have hu0:_<cLine:=hr.units0
  have hu1:_+1<cLine:=Nat.lt_of_le_of_lt (Nat.add_le_add_left (show 1<=64 by decide) _) hr.units
  refine⟨_,pss_cons (ps_dcomp (i:=2) scOB.nd rfl (Or.inl rfl) false hu0 rfl csD (pi_enumB b rfl T2.enum (@pa_nam _ _ _ _ _ _ (pv 1) pa_nil)) (fun C s H fp=>pg_tupK K rfl (n:=2) rfl (pgs_cons (pg_name (i:=0) ndD rfl (Or.inl rfl)) (pgs_cons (pg_name (i:=1) ndD rfl (Or.inl rfl)) pgs_nil)) rfl rfl) (fun C s H fp=>pf_nil) (fun C s H fp=>pv 1) (fun C s H fp=>pv 0))
   (pss_cons (ps_set (i:=3) scOB.nd rfl (Or.inr rfl) (pe_callTy call_dict_copy (by rfl) T2.dict boot_dict (@pa_nam _ _ _ _ _ _ (pv 2) pa_nil)))
   (pss_cons (ps_for PassesOwn.never rfl (pi_tup (@pe_ix _ _ _ _ _ _ _ ix_tup (pv 0) pe_int (fun _ _=>rfl))) (pg_tup (n:=3) rfl (pgs_cons (pg_name (i:=4) scOB.nd rfl (Or.inl rfl)) (pgs_cons (pg_name (i:=5) scOB.nd rfl (Or.inl rfl)) (pgs_cons (pg_name (i:=6) scOB.nd rfl (Or.inl rfl)) pgs_nil))))
    (pss_cons (ps_dput hu1 (pv 3) (pv 4) (pe_callB (call_max2 rfl) (by rfl) T.max boot_max (@pa_sub _ _ _ _ _ _ _ (pe_dget hu1 (pv 3) (pv 4) (fun _ _=>rfl)) (@pa_sub _ _ _ _ _ _ _ (pe_dget hu1 (pv 2) (pv 5) (fun _ _=>rfl)) pa_nil))) rfl)
    (pss_one (ps_dput hu1 (pv 3) (pv 5) (pe_callB (call_max2 rfl) (by rfl) T.max boot_max (@pa_sub _ _ _ _ _ _ _ (pe_dget hu1 (pv 3) (pv 5) (fun _ _=>rfl)) (@pa_sub _ _ _ _ _ _ _ (pe_dget hu1 (pv 2) (pv 4) (fun _ _=>rfl)) pa_nil))) rfl))))
   (pss_one (ps_ret (pe_compC rfl csO (pi_range1 rfl T.range (@pa_call _ _ _ _ _ _ _ _ (pe_callB call_len_seq (by rfl) T.len PySem.boot_len (@pa_nam _ _ _ _ _ _ (pv 1) pa_nil)) pa_nil)) (fun C s H fp=>pg_name (i:=0) ndO rfl (Or.inr rfl) (Or.inl (by rfl))) (fun C s H fp=>pf_nil) (fun C s H fp=>(show PE _ _ (teI b K)from pe_comp rfl csI (pi_seq b (pe_slice (sl_B b) (pv 2) po_none (po_some (pe_op op_add (pv 0) pe_int)))) (fun C s H fp=>pg_name (i:=0) ndI rfl (Or.inl rfl)) (fun C s H fp=>pf_one (pt_cmpR op_gt (pe_dget hu1 (pv 2) (pv 0) (fun _ _=>rfl)) (pv 1) (nomark _))) (fun C s H fp=>pv 0)))))))),?_⟩
  obtain⟨⟨ts,as,h1,h2,h3⟩,tl⟩:=W
  have al:as.length=ties.length:=h3.length
  have ol:ord.length=n:=by rw[pm.length_eq,upto_length]
  have nd:ord.Nodup:=pm.nodup_iff.mpr (upto_nodup n)
  have mo:∀ p:Int,p∈ord↔0<=p/\p<n:=fun p=>by rw[pm.mem_iff,mem_upto']
  refine⟨_,rfl,od,rfl,⟨_,gO.sqB⟩,fun c hc=>?_⟩
  refine dcomp_enumB (b:=b) (K:=K) (l:=od) (xs:=ord.map V.int) (D:=c) (fun i G=>∃ kvs,G c=some (.dK kvs)/\kvs.length<=i/\(∀ (j:Nat) (hj:j<ord.length),j<i->valV kvs (Sum.inl ord[j])=some (.int (j:Int)))/\Same H G) ⟨[],upd_same,Nat.le_refl _,fun j _ h=>absurd h (by lia),Same.new hc⟩ (fun i G _ z=>by obtain⟨_,_,_,_,s0⟩:=z;exact(gO.same s0).sqB) ?_ ?_
  ·rintro i x G T' hx ⟨kvs,gc,kl,kv,sG⟩ hT
   obtain⟨il,e⟩:=List.getElem?_eq_some_iff.mp hx
   rw[List.length_map]at il
   rw[List.getElem_map]at e
   subst e
   have sT:=Same.new (o:=.tup [.int (i:Int),.int ord[i]]) hT
   have gc':=sT _ _ gc
   refine⟨T',_,rfl,SqT.of upd_same,rfl,_,_,rfl,_,_,rfl,rfl,trivial,tTru_if ⟨_,rfl,_,rfl,_,DPut.k (k:=Sum.inl ord[i]) gc' (by rw[sizeLine_eq];lia),putK kvs (Sum.inl ord[i]) (.int (i:Int)),upd_same,?_,fun j hj ji=>?_,same_put (sG.trans sT) hc⟩⟩
   ·have:=putK_len (kvs:=kvs) (k:=Sum.inl ord[i]) (v:=.int (i:Int))
    lia
   ·rw[valV_put]
    by_cases e:j=i
    ·subst e;rw[if_pos rfl]
    ·rw[if_neg (fun z=>e (by injection z with z;exact get_inj nd z))]
     exact kv j hj (by lia)
  rintro G ⟨kvs,gc,kl,kv,sG⟩
  rw[List.length_map]at kl kv
  rw[ol]at kl
  have cv:∀ p:Int,0<=p->p<n->valV kvs (Sum.inl p)=some (.int (cm ord p)):=fun p p0 p1=>by
   obtain⟨j,hj,e⟩:=List.getElem_of_mem ((mo p).mpr ⟨p0,p1⟩)
   rw[<- e,cm_at nd hj]
   exact kv j hj (by omega)
  clear kv
  refine⟨_,rfl,c,kvs,rfl,gc,fun d hd=>?_⟩
  have sd:=Same.new (o:=.dK kvs) hd
  have d0:H d=none:=sG.free hd
  have gc1:=sd _ _ gc
  have gd1:(upd G d (.dK kvs)) d=some (.dK kvs):=upd_same
  have dc:c≠d:=ne_of_none gc hd
  have sG1:=sG.trans sd
  generalize (upd G d (.dK kvs))=G1 at gc1 gd1 sG1 ⊢
  clear sd hd sG gc
  refine⟨_,rfl,t,_,_,_,rfl,rfl,SqT.of (sG1 _ _ h1),rfl,ts,rfl,⟨_,SqT.of (sG1 _ _ h2)⟩,?_⟩
  refine for_tup (K:=K) (a:=ts) (xs:=as.map V.ref) (fun i σ G=>∃ v4 v5 v6 kl,σ=[some (.ref t),some (.ref od),some (.ref c),some (.ref d),v4,v5,v6]/\G c=some (.dK kvs)/\G d=some (.dK kl)/\kl.length<=31+2 * i/\LI ord n (prs (ties.take i)) kl/\Same H G)
   ⟨_,_,_,kvs,rfl,gc1,gd1,by omega,(fun p p0 p1=>⟨_,cv p p0 p1,fun a=>⟨.inl,fun z=>z.elim id (fun⟨x,hx,_⟩=>nomatch hx)⟩⟩),sG1⟩ (fun i σ G _ z=>by obtain⟨_,_,_,_,_,_,_,_,_,s0⟩:=z;exact SqT.of (s0 _ _ h2)) ?_ ?_
  ·clear gc1 gd1 sG1 G1 G
   rintro i x σ G hx ⟨v4,v5,v6,kl',rfl,gc,gd,kll,li,sG⟩
   obtain⟨il,e⟩:=List.getElem?_eq_some_iff.mp hx
   rw[List.length_map]at il
   rw[List.getElem_map]at e
   subst e
   have it:i<ties.length:=by omega
   have ga:=sG _ _ (Paired.at h3 i il it)
   obtain⟨r1,r2,r3,_⟩:=ok _ (List.getElem_mem it)
   have st:prs (ties.take (i+1))=prs (ties.take i)++[(ties[i].1,ties[i].2.1)]:=by
    rw[List.take_succ_eq_append_getElem it]
    unfold prs
    rw[List.map_append]
    rfl
   rw[st]
   generalize prs (ties.take i)=ps at li
   obtain⟨ta,tb,tw,hti⟩:∃ ta tb tw:Int,ties[i]=(ta,tb,tw):=⟨_,_,_,rfl⟩
   rw[hti]at ga r1 r2 r3 ⊢
   have r1:(0:Int)<=ta:=r1
   have r2:ta<tb:=r2
   have r3:tb<n:=r3
   obtain⟨va,ha,_⟩:=li ta r1 (by omega)
   obtain⟨vb,hb,_⟩:=li tb (by omega) r3
   have get1:∀ {G:Hp}{ks:List (Key×V)}{k z:Int}{q:Addr},G q=some (.dK ks)->valV ks (Sum.inl k)=some (.int z)->DGet G q (.int k) (some (.int z)):=fun {G ks k z q} g e=>by
    have:=DGet.k (k:=Sum.inl k) g
    rw[e]at this
    exact this
   refine⟨as[i],_,rfl,SqT.of ga,rfl,_,_,rfl,_,_,rfl,_,_,rfl,rfl,?_⟩
   refine⟨_,rfl,_,rfl,d,_,rfl,get1 gd ha,_,rfl,_,rfl,c,_,rfl,get1 gc (cv tb (by omega) r3),_,_,rfl,_,rfl,_,rfl,d,_,rfl,DPut.k (k:=Sum.inl ta) gd (by rw[sizeLine_eq];have:i<=60:=(by omega);omega),?_⟩
   have hb2:valV (putK kl' (Sum.inl ta) (.int (if cm ord tb > va then cm ord tb else va))) (Sum.inl tb)=some (.int vb):=by
    rw[valV_put,if_neg (fun z=>by injection z with z;omega)]
    exact hb
   have gd2:(upd G d (.dK (putK kl' (Sum.inl ta) (.int (if cm ord tb > va then cm ord tb else va))))) d=some (.dK (putK kl' (Sum.inl ta) (.int (if cm ord tb > va then cm ord tb else va)))):=upd_same
   have gc2:(upd G d (.dK (putK kl' (Sum.inl ta) (.int (if cm ord tb > va then cm ord tb else va))))) c=some (.dK kvs):=by rw[upd_ne dc];exact gc
   have sG2:Same H (upd G d (.dK (putK kl' (Sum.inl ta) (.int (if cm ord tb > va then cm ord tb else va))))):=same_put sG d0
   have pl1:=putK_len (kvs:=kl') (k:=Sum.inl ta) (v:=.int (if cm ord tb > va then cm ord tb else va))
   refine⟨_,rfl,_,rfl,d,_,rfl,get1 gd2 hb2,_,rfl,_,rfl,c,_,rfl,get1 gc2 (cv ta r1 (by omega)),_,_,rfl,_,rfl,_,rfl,d,_,rfl,DPut.k (k:=Sum.inl tb) gd2 (by rw[sizeLine_eq];have:i<=60:=(by omega);omega),?_⟩
   have pl2:=putK_len (kvs:=putK kl' (Sum.inl ta) (.int (if cm ord tb > va then cm ord tb else va))) (k:=Sum.inl tb) (v:=.int (if cm ord ta > vb then cm ord ta else vb))
   exact⟨_,_,_,_,rfl,(by rw[upd_ne dc];exact gc2),upd_same,(by omega),li.put (by omega) ha hb,same_put sG2 d0⟩
  ·clear gc1 gd1 sG1 G1 G
   rintro σ G ⟨v4,v5,v6,kl',rfl,gc,gd,kll,li,sG⟩
   rw[List.length_map,al,List.take_length]at li
   refine⟨_,rfl,od,_,rfl,(gO.same sG).or,_,rfl,(by rw[List.length_map,ol];omega),(by rw[List.length_map,ol];omega),?_⟩
   have en:(((ord.map V.int).length:Nat):Int).toNat=n:=by rw[List.length_map,ol];exact Int.toNat_natCast _
   rw[en]
   refine comp_range (lo:=0) (n:=n) (fun i ys G2=>∃ ls:List Addr,ys=ls.map V.ref/\Paired (fun a (i:Nat)=>G2 a=some (.lst ((openAt (prs ties) ord i).map V.int))) ls (List.range i)/\Same G G2) (by rw[sizeLine_eq];omega) ⟨[],rfl,.nil,Same.refl _⟩ ?_ ?_
   ·rintro i ys G2 hi ⟨ls,rfl,pr,s2⟩
    refine⟨⟨rfl,rfl,trivial⟩,tTru_if ?_⟩
    rw[Int.zero_add]
    refine⟨_,rfl,_,rfl,_,_,rfl,rfl,_,rfl,od,_,rfl,(gO.same sG).same s2,fun sl G3 ss gs3=>?_⟩
    have ec:cutV (ord.map V.int) none (some ((i:Int)+1))=(ord.take (i+1)).map V.int:=by
     unfold cutV
     have e1:((i:Int)+1)=((i+1:Nat):Int):=by omega
     rw[e1,HT.sIx_nat,HT.sIx_none,List.drop_zero,List.length_map,ol,Nat.min_eq_left (by omega),Nat.sub_zero,<- List.map_take]
    rw[ec]at gs3
    refine⟨sl,rfl,⟨_,gs3.sqB⟩,?_⟩
    have gd3:=ss _ _ (s2 _ _ gd)
    have s3:=s2.trans ss
    have pr3:=Paired.mapP pr fun a (x:Nat) e=>ss _ _ e
    have tkl:(ord.take (i+1)).length=i+1:=by rw[List.length_take,ol];omega
    refine comp_seq (b:=b) (K:=K) (a:=sl) (xs:=(ord.take (i+1)).map V.int) (fun j zs G4=>G4=G3/\zs=(((ord.take (i+1)).take j).filter (tiedB (prs ties) (ord.drop (i+1)))).map V.int) (by rw[List.length_map,tkl,sizeLine_eq];omega) ⟨rfl,rfl⟩ (fun j zs G4 _ z=>by rw[z.1];exact gs3.sqB) ?_ ?_
    ·rintro j x zs G4 hx ⟨rfl,rfl⟩
     obtain⟨jl,e⟩:=List.getElem?_eq_some_iff.mp hx
     rw[List.length_map]at jl
     rw[List.getElem_map]at e
     subst e
     have pin:(ord.take (i+1))[j]∈ord.take (i+1):=List.getElem_mem jl
     have pord:=List.mem_of_mem_take pin
     obtain⟨p0,p1⟩:=(mo _).mp pord
     obtain⟨v,hv,iff⟩:=li _ p0 p1
     have nlt:¬(i:Int)<cm ord (ord.take (i+1))[j]:=fun z=>by
      have z:=(cm_drop nd pord i).mp z
      rw[<- List.take_append_drop (i+1) ord]at nd
      exact(List.nodup_append.mp nd).2.2 _ pin _ z rfl
     have ct:(i:Int)<v↔tied (prs ties) (ord.drop (i+1)) (ord.take (i+1))[j]:=by
      rw[iff i]
      have inO:∀ x∈prs ties,x.1∈ord/\x.2∈ord:=fun x hx=>by
       obtain⟨y,hy,e⟩:=List.mem_map.mp hx
       obtain⟨a1,a2,a3,_⟩:=ok y hy
       rw[<- e]
       exact⟨(mo _).mpr ⟨a1,by show y.1<n;omega⟩,(mo _).mpr ⟨by show 0<=y.2.1;omega,a3⟩⟩
      constructor
      ·rintro(z |⟨x,hx,z⟩)
       ·exact absurd z nlt
       ·refine⟨x,hx,?_⟩
        rcases z with⟨z1,z2⟩ |⟨z1,z2⟩
        ·exact .inl ⟨z1,(cm_drop nd (inO x hx).2 i).mp z2⟩
        ·exact .inr ⟨z1,(cm_drop nd (inO x hx).1 i).mp z2⟩
      ·rintro⟨x,hx,z⟩
       refine .inr ⟨x,hx,?_⟩
       rcases z with⟨z1,z2⟩ |⟨z1,z2⟩
       ·exact .inl ⟨z1,(cm_drop nd (inO x hx).2 i).mpr z2⟩
       ·exact .inr ⟨z1,(cm_drop nd (inO x hx).1 i).mpr z2⟩
     have dg:DGet G4 d (.int (ord.take (i+1))[j]) (some (.int v)):=by
      have:=DGet.k (k:=Sum.inl (ord.take (i+1))[j]) gd3
      rw[hv]at this
      exact this
     refine⟨⟨rfl,rfl,trivial⟩,?_⟩
     refine⟨_,rfl,_,rfl,d,_,rfl,dg,_,rfl,_,_,rfl,rfl,_,rfl,ite2 (fun c=>?_) (fun c=>?_)⟩
     ·have c:tied (prs ties) (ord.drop (i+1)) (ord.take (i+1))[j]:=ct.mp (of_decide_eq_true c)
      refine⟨_,rfl,rfl,?_⟩
      rw[List.take_succ_eq_append_getElem jl,List.filter_append,List.map_append,List.filter_cons_of_pos (tiedB_iff.mpr c)]
      rfl
     ·have c:¬ tied (prs ties) (ord.drop (i+1)) (ord.take (i+1))[j]:=fun z=>c (decide_eq_true (ct.mpr z))
      refine⟨rfl,?_⟩
      rw[List.take_succ_eq_append_getElem jl,List.filter_append,List.filter_cons_of_neg (fun z=>c (tiedB_iff.mp z)),List.filter_nil,List.append_nil]
    ·rintro zs G4 _ ⟨rfl,rfl⟩ D hD
     rw[List.take_of_length_le (by rw[List.length_map];omega)]
     have sD:=Same.new (o:=.lst ((openAt (prs ties) ord i).map V.int)) hD
     refine⟨ls++[D],(by rw[List.map_append];rfl),?_,s3.trans sD⟩
     rw[List.range_succ]
     exact Paired.snoc (Paired.mapP pr3 fun a (x:Nat) e=>sD _ _ e) upd_same
   ·rintro ys G2 _ ⟨ls,rfl,pr,s2⟩ D hD
    have sD:=Same.new (o:=.lst (ls.map V.ref)) hD
    exact q D ls _ upd_same (Paired.mapP pr fun a (x:Nat) e=>sD _ _ e) (sG.trans (s2.trans sD))
end
open PySem L2 PyProof.Rows
theorem op_ninK{X:Cx}(K:PySem.W.Frag)(e:X.K=K):OpR X (compareOp .NotIn) (rIn K true):=e▸op_notIn_seq
inductive spOrI(vs:List V)(H:Hp)(Q:VK):Prop where
 |mk (p t:Addr) (n N:Nat) (ties:List Tie) (h1:vs=[.ref p,.ref t]) (h2:BoxAt H p N) (h3:N+100<2 ^ 40) (h4:1<=n) (h5:n<=30) (h6:WebAt H t n ties) (h7:∀ (l:Addr) (ord:List Int) (H':Hp),H l=none->H' l=some (.lst (ord.map V.int))->l≠p->ord.Perm (upto n)->BoxAt H' p (N+40)->Kept p H H'->Q (.ref l) H')
noncomputable def spOr:Sp:=fun vs H Q _=>spOrI vs H Q
inductive spWsI(vs:List V)(H:Hp)(Q:VK):Prop where
 |mk (t od:Addr) (n:Nat) (ties:List Tie) (ord:List Int) (h1:vs=[.ref t,.ref od]) (h2:n<=30) (h3:WebAt H t n ties) (h4:(∀ x∈ties,TieOk n x)) (h5:H od=some (.lst (ord.map V.int))) (h6:ord.Perm (upto n)) (h7:∀ l H',H' l=some (.lst ((lens (prs ties) ord).map V.int))->Same H H'->Q (.ref l) H')
noncomputable def spWs:Sp:=fun vs H Q _=>spWsI vs H Q
theorem lens_len{ps:List (Int×Int)}{ord:List Int}:(lens ps ord).length=ord.length:=by unfold lens;rw[List.length_map,List.length_range]
theorem lens_get{ps:List (Int×Int)}{ord:List Int}{i:Nat}(h:i <(lens ps ord).length):(lens ps ord)[i]=(((openAt ps ord i).length:Nat):Int):=by simp[lens]
section
variable{P:Program}{w:World}{K:PySem.W.Frag}{mg:Str->Option Value}{base:Heap}
noncomputable abbrev nOr:List Str:=["_law_box_here","_law_web","_law_some","_law_way"]
theorem scOr:FnScope nOr ["_law_box_here","_law_web"] (defScope sOrder):=⟨rfl,rfl,rfl,by decide +kernel,rfl,by decide +kernel,by decide +kernel⟩
theorem csOr:CompScope ["_law_turn","_law_box_here","_law_some"] [none,some 0,some 2] nOr (defScope sOrder) (scO [(".0",.local),("_law_turn",.local),("_law_take",.globalImplicit),("len",.globalImplicit),("_law_box_here",.free),("_law_some",.free)]):=⟨rfl,by decide +kernel,by decide +kernel,by decide +kernel,rfl,capB_ok (by decide +kernel)⟩
theorem ndOr:(["_law_turn","_law_box_here","_law_some"]:List Str).Nodup:=by decide +kernel
theorem ok_or{f g:Addr}{fd gd:FuncData}(F:Fun K "_law_order" "_law_order" sOrder f fd)(T:Txt mg)(G:TakeF P w K mg base g gd):FnOk P w K mg base CX0 2 f fd ["_law_box_here","_law_web"] spOr:=by
 refine F.ok scOr (fun vs H Q E h=>?_) (fun cdv A outer s H vs Q E hr h=>?_)
 ·obtain⟨p,t,n,N,ties,rfl,_⟩:=h
  rfl
 ·obtain⟨p,t,n,N,ties,rfl,B,hN,n1,n30,W,q⟩:=h
  refine⟨_,pss_cons (ps_set (i:=2) scOr.nd rfl (Or.inr rfl) (pe_callTy (call_list_rng rfl) (by rfl) T.list boot_list (@pa_call _ _ _ _ _ _ _ _ (pe_callTy (call_range _) (by rfl) T.range boot_range (@pa_sub _ _ _ _ _ _ _ (@pe_ix _ _ _ _ _ _ _ ix_tup (pv 1) pe_int (fun _ _=>rfl)) pa_nil)) pa_nil)))
   (pss_cons (ps_set (i:=3) scOr.nd rfl (Or.inl rfl) (pe_call G.ok hr rfl G.mg G.kp G.bd .nil pass0 (@pa_nam _ _ _ _ _ _ (pv 0) (@pa_cst _ _ _ _ _ _ _ pe_int pa_nil))))
   (pss_cons (ps_if (pt_cmpR op_lt (pv 3) pe_int (nomark _)) (pss_one (ps_ret (@pe_ix _ _ _ _ _ _ _ ix_list (@pe_lst _ _ _ _ (@pa_nam _ _ _ _ _ _ (pv 2) (@pa_sub _ _ _ _ _ _ _ (pe_rev (pv 2) (pe_un un_neg pe_int)) pa_nil))) (pv 3) (fun _ _=>rfl)))) pss_nil)
   (pss_one (ps_ret (pe_comp rfl csOr (pi_range1 rfl T.range (@pa_sub _ _ _ _ _ _ _ (@pe_ix _ _ _ _ _ _ _ ix_tup (pv 1) pe_int (fun _ _=>rfl)) pa_nil))
    (fun C s H fp=>pg_name (i:=0) ndOr rfl (Or.inl rfl)) (fun C s H fp=>pf_nil)
    (fun C s H fp=>pe_bmK K rfl PySem.F.plainAttrs_list PySem.F.slot_list_pop PySem.F.type_list_pop mt_popAt (pv 2) (@pa_call _ _ _ _ _ _ _ _ (pe_call G.ok hr rfl G.mg G.kp G.bd .nil pass0 (@pa_nam _ _ _ _ _ _ (pv 1) (@pa_call _ _ _ _ _ _ _ _ (pe_callB (call_len_seqK K rfl) (by rfl) T.len PySem.boot_len (@pa_nam _ _ _ _ _ _ (pv 2) pa_nil)) pa_nil))) pa_nil))))))),?_⟩
  obtain⟨⟨ts,as,h1,h2,h3⟩,len⟩:=id W
  refine⟨_,rfl,t,_,_,_,rfl,rfl,SqT.of h1,rfl,_,rfl,fun r hr=>⟨r,_,rfl,upd_same,by lia,by lia,fun so hso=>?_⟩⟩
  rw[show((n:Int)).toNat=n by lia]
  have so0:H so=none:=(Same.new (o:=.rng 0 (n:Int)) hr).free hso
  have sop:so≠p:=B.ne so0
  have s1:=(Same.new (o:=.rng 0 (n:Int)) hr).trans (Same.new (o:=.lst ((upto n).map V.int)) hso)
  have gs:(upd (upd H r (.rng 0 (n:Int))) so (.lst ((upto n).map V.int))) so=some (.lst ((upto n).map V.int)):=upd_same
  generalize (upd (upd H r (.rng 0 (n:Int))) so (.lst ((upto n).map V.int)))=H1 at s1 gs
  have B1:=B.same s1
  refine⟨_,rfl,p,_,N,rfl,B1,by lia,by decide,by decide,fun z H2 z0 z1 B2 k2=>?_⟩
  have k1:Kept p H H1:=fun b o _ e=>s1 b o e
  have k12:=k1.trans k2
  have gs2:=k2 _ _ sop gs
  have W2:=(W.same s1).kept B1 k2
  obtain⟨⟨ts2,as2,h12,_,_⟩,_⟩:=id W2
  refine⟨_,rfl,_,_,rfl,rfl,_,rfl,?_⟩
  refine ite2 (fun hz=>?_) (fun hz=>?_)
  ·have hz:z<2:=of_decide_eq_true hz
   refine⟨_,rfl,_,rfl,_,rfl,so,_,rfl,rfl,SqL.of gs2,fun rv hrv=>?_⟩
   rw[<- List.map_reverse]
   have sr:=Same.new (o:=.lst ((upto n).reverse.map V.int)) hrv
   refine⟨(by show 2<=sizeLine;decide),fun dl hdl=>?_⟩
   have sd:=Same.new (o:=.lst [.ref so,.ref rv]) hdl
   have srd:=sr.trans sd
   have B3:=B2.same srd
   have k3:=k12.trans (fun b o _ e=>srd b o e:Kept p _ _)
   have rvp:rv≠p:=B2.ne hrv
   by_cases e:z=0
   ·refine⟨_,rfl,dl,_,_,V.ref so,rfl,rfl,SqL.of upd_same,by rw[e];exact atI_nat (j:=0) rfl,?_⟩
    exact q so (upto n) _ so0 (srd _ _ gs2) sop (.refl _) (B3.mono (by lia)) k3
   ·refine⟨_,rfl,dl,_,_,V.ref rv,rfl,rfl,SqL.of upd_same,by rw[show z=((1:Nat):Int) by lia];exact atI_nat (j:=1) rfl,?_⟩
    exact q rv (upto n).reverse _ (k12.free B2 hrv) (sd _ _ upd_same) rvp (List.reverse_perm _) (B3.mono (by lia)) k3
  ·refine⟨_,rfl,t,_,_,_,rfl,rfl,SqT.of h12,rfl,_,rfl,by lia,by lia,?_⟩
   rw[show((n:Int)).toNat=n by lia]
   refine comp_range (lo:=0) (n:=n) (fun j ys G2=>BoxAt G2 p (N+1+j)/\Kept p H G2/\∃ (rs qs:List Int),G2 so=some (.lst (rs.map V.int))/\ys=qs.map V.int/\(qs++rs).Perm (upto n)/\qs.length=j) (by rw[sizeLine_eq];lia)
    ⟨B2,k12,upto n,[],gs2,rfl,.refl _,rfl⟩ ?_ ?_
   ·rintro j ys G2 hj ⟨B3,k3,rs,qs,gs3,rfl,pm,ql⟩
    have rl:qs.length+rs.length=n:=by
     have:=pm.length_eq
     rw[List.length_append,upto_length]at this
     exact this
    refine⟨⟨rfl,rfl,trivial⟩,tTru_if ⟨_,rfl,.inl ⟨rfl,_,SqL.of gs3⟩,_,rfl,_,rfl,so,_,rfl,.inl (SqL.of gs3),p,_,_,rfl,B3,by lia,by rw[List.length_map];lia,by rw[List.length_map];omega,fun y G3 y0 y1 B4 k4=>?_⟩⟩
    rw[List.length_map]at y1
    obtain⟨k,rfl⟩:∃ k:Nat,y=(k:Int):=⟨y.toNat,by omega⟩
    have kl:k<rs.length:=by omega
    have gs4:=k4 _ _ sop gs3
    refine⟨so,rs.map V.int,(k:Int),k,V.int rs[k],rfl,rfl,gs4,by omega,by omega,?_,by rw[List.getElem?_map,List.getElem?_eq_getElem kl];rfl,?_⟩
    ·unfold seqIndex?
     rw[List.length_map]
     simp
     omega
    rw[map_eraseI]
    refine⟨(B4.put sop).mono (by omega),(k3.trans k4).put so0,rs.eraseIdx k,qs++[rs[k]],upd_same,by rw[List.map_append];rfl,?_,by rw[List.length_append,ql];rfl⟩
    rw[List.append_assoc]
    exact(List.Perm.append_left _ (SetA.cut_perm k rs kl)).trans pm
   ·rintro ys G2 yl ⟨B3,k3,rs,qs,gs3,rfl,pm,ql⟩ D hD
    have sD:=Same.new (o:=.lst (qs.map V.int)) hD
    have re:rs=[]:=by
     have:=pm.length_eq
     rw[List.length_append,upto_length]at this
     exact List.length_eq_zero_iff.mp (by omega)
    rw[re,List.append_nil]at pm
    exact q D qs _ (k3.free B3 hD) upd_same (B3.ne hD) pm ((B3.same sD).mono (by omega)) (k3.trans (fun b o _ e=>sD b o e))
noncomputable abbrev nWs:List Str:=["_law_web","_law_order_here","_law_found","_law_turn","_law_later","_law_ends"]
theorem scWs:FnScope nWs ["_law_web","_law_order_here"] (defScope sWidths):=⟨rfl,rfl,rfl,by decide +kernel,rfl,by decide +kernel,by decide +kernel⟩
theorem csWa:CompScope ["_law_a","_law_b","_law_weight_here","_law_later"] [none,none,none,some 4] nWs (defScope sWidths) (scO [(".0",.local),("_law_a",.local),("_law_b",.local),("_law_weight_here",.local),("_law_later",.free)]):=⟨rfl,by decide +kernel,by decide +kernel,by decide +kernel,rfl,capB_ok (by decide +kernel)⟩
theorem ndWa:(["_law_a","_law_b","_law_weight_here","_law_later"]:List Str).Nodup:=by decide +kernel
theorem csWc:CompScope ["_law_place","_law_later"] [none,some 4] nWs (defScope sWidths) (scO [(".0",.local),("_law_place",.local),("_law_later",.free)]):=⟨rfl,by decide +kernel,by decide +kernel,by decide +kernel,rfl,capB_ok (by decide +kernel)⟩
theorem ndWc:(["_law_place","_law_later"]:List Str).Nodup:=by decide +kernel
theorem ok_ws{f:Addr}{fd:FuncData}(F:Fun K "_law_widths" "_law_widths" sWidths f fd)(T:Txt mg)(T3:mg "set" = none):FnOk P w K mg base CX0 1 f fd ["_law_web","_law_order_here"] spWs:=by
 refine F.ok scWs (fun vs H Q E h=>?_) (fun cdv A outer s H vs Q E hr h=>?_)
 ·obtain⟨t,od,n,ties,ord,rfl,_⟩:=h
  rfl
 ·obtain⟨t,od,n,ties,ord,rfl,n30,W,ok,gO,pm,q⟩:=h
  refine⟨_,pss_cons (ps_set (i:=2) scWs.nd rfl (Or.inl rfl) (@pe_lst _ _ _ _ pa_nil))
   (pss_cons (ps_for PassesOwn.never rfl (pi_range1 rfl T.range (@pa_call _ _ _ _ _ _ _ _ (pe_callB call_len_seq (by rfl) T.len PySem.boot_len (@pa_nam _ _ _ _ _ _ (pv 1) pa_nil)) pa_nil)) (pg_name (i:=3) scWs.nd rfl (Or.inl rfl))
    (pss_cons (ps_set (i:=4) scWs.nd rfl (Or.inr rfl) (pe_slice sl_list (pv 1) (po_some (pe_op op_add (pv 3) pe_int)) po_none))
    (pss_cons (ps_set (i:=5) scWs.nd rfl (Or.inl rfl) (pe_op op_cat
     (pe_comp rfl csWa (pi_tup (pe_ix ix_tup (pv 0) pe_int (fun _ _=>rfl))) (fun C s H fp=>pg_tupK K rfl (n:=3) rfl (pgs_cons (pg_name (i:=0) ndWa rfl (Or.inl rfl)) (pgs_cons (pg_name (i:=1) ndWa rfl (Or.inl rfl)) (pgs_cons (pg_name (i:=2) ndWa rfl (Or.inl rfl)) pgs_nil))) rfl rfl) (fun C s H fp=>pf_one (pt_cmpR (op_inK K rfl) (pv 1) (pv 3) rfl)) (fun C s H fp=>pv 0))
     (pe_comp rfl csWa (pi_tup (pe_ix ix_tup (pv 0) pe_int (fun _ _=>rfl))) (fun C s H fp=>pg_tupK K rfl (n:=3) rfl (pgs_cons (pg_name (i:=0) ndWa rfl (Or.inl rfl)) (pgs_cons (pg_name (i:=1) ndWa rfl (Or.inl rfl)) (pgs_cons (pg_name (i:=2) ndWa rfl (Or.inl rfl)) pgs_nil))) rfl rfl) (fun C s H fp=>pf_one (pt_cmpR (op_inK K rfl) (pv 0) (pv 3) rfl)) (fun C s H fp=>pv 1))))
    (pss_one (ps_expr (pe_bm PySem.F.plainAttrs_list PySem.F.slot_list_append PySem.F.type_list_append mt_append (pv 2) (@pa_call _ _ _ _ _ _ _ _ (pe_callB call_lenS (by rfl) T.len PySem.boot_len (@pa_call _ _ _ _ _ _ _ _ (pe_callTy call_setI (by rfl) T3 PyProof.Rows.boot_set (@pa_comp _ _ _ _ _ _ _ _ (pe_comp rfl csWc (pi_list (pv 5)) (fun C s H fp=>pg_name (i:=0) ndWc rfl (Or.inl rfl)) (fun C s H fp=>pf_one (pt_cmpR (op_ninK K rfl) (pv 0) (pv 1) rfl)) (fun C s H fp=>pv 0)) pa_nil)) pa_nil)) pa_nil)))))))
   (pss_one (ps_ret (pv 2)))),?_⟩
  have ol:ord.length=n:=by rw[pm.length_eq,upto_length]
  refine⟨(by show 0<=sizeLine;decide),fun fo hfo=>?_⟩
  refine⟨_,rfl,od,_,rfl,.inl (SqL.of ((Same.new hfo) _ _ gO)),_,rfl,(by rw[List.length_map,ol];omega),(by rw[List.length_map,ol];omega),?_⟩
  have en:(((ord.map V.int).length:Nat):Int).toNat=n:=by rw[List.length_map,ol];exact Int.toNat_natCast _
  rw[en]
  have ln:(lens (prs ties) ord).length=n:=by rw[lens_len,ol]
  refine for_range (lo:=0) (n:=n) (fun i σ G=>∃ v3 v4 v5,σ=[some (.ref t),some (.ref od),some (.ref fo),v3,v4,v5]/\G fo=some (.lst (((lens (prs ties) ord).take i).map V.int))/\Same H G) ⟨_,_,_,rfl,upd_same,Same.new hfo⟩ ?_ ?_
  ·rintro i σ G hi ⟨v3,v4,v5,rfl,gf,sG⟩
   rw[show(0:Int)+(i:Int)=(i:Int) by omega]
   obtain⟨⟨ts,as,h1,h2,h3⟩,tl⟩:=id W
   have h3l:as.length=ties.length:=h3.length
   refine⟨_,rfl,_,rfl,_,_,rfl,rfl,(i:Int)+1,rfl,od,_,rfl,SqL.of (sG _ _ gO),fun la hla=>?_⟩
   have ec:cutV (ord.map V.int) (some ((i:Int)+1)) none=(ord.drop (i+1)).map V.int:=by
    unfold cutV
    have e1:((i:Int)+1)=((i+1:Nat):Int):=by omega
    rw[e1,HT.sIx_nat,HT.sIx_none,List.length_map,ol,Nat.min_eq_left (by omega),<- List.map_drop,List.take_of_length_le (by rw[List.length_map,List.length_drop,ol];exact Nat.le_refl _)]
   rw[ec]
   have s1:=Same.new (o:=.lst ((ord.drop (i+1)).map V.int)) hla
   have gla:(upd G la (.lst ((ord.drop (i+1)).map V.int))) la=some (.lst ((ord.drop (i+1)).map V.int)):=upd_same
   have gf1:=s1 _ _ gf
   have sG1:=sG.trans s1
   have fla:la≠fo:=fun z=>by rw[z,gf]at hla;cases hla
   generalize (upd G la (.lst ((ord.drop (i+1)).map V.int)))=G1 at s1 gla gf1 sG1
   have hin:∀ z:Int,(if false=true then !inV (V.int z) ((ord.drop (i+1)).map V.int)else inV (V.int z) ((ord.drop (i+1)).map V.int))=true↔z∈ord.drop (i+1):=fun z=>by
    rw[if_neg (by decide),inV_ints]
    exact List.contains_iff_mem
   have nd:ord.Nodup:=pm.nodup_iff.mpr (upto_nodup n)
   refine⟨_,rfl,t,_,_,_,rfl,rfl,SqT.of (sG1 _ _ h1),rfl,ts,rfl,⟨_,SqT.of (sG1 _ _ h2)⟩,?_⟩
   refine comp_tup (K:=K) (a:=ts) (xs:=as.map V.ref) (fun j ys G2=>G2=G1/\ys=(((ties.take j).filter fun x=>decide (x.2.1∈ord.drop (i+1))).map (·.1)).map V.int) (by rw[List.length_map,sizeLine_eq];omega) ⟨rfl,rfl⟩ (fun j ys G2 _ z=>by rw[z.1];exact SqT.of (sG1 _ _ h2)) ?_ ?_
   ·rintro j x ys G2 hx ⟨rfl,rfl⟩
    obtain⟨jl,e⟩:=List.getElem?_eq_some_iff.mp hx
    rw[List.length_map]at jl
    rw[List.getElem_map]at e
    subst e
    have jt:j<ties.length:=by omega
    have hx0:=sG1 _ _ (Paired.at h3 j jl jt)
    refine⟨as[j],_,rfl,SqT.of hx0,rfl,_,_,rfl,_,_,rfl,_,_,rfl,rfl,⟨rfl,trivial⟩,?_⟩
    refine⟨_,rfl,_,rfl,la,_,rfl,.inl (SqL.of gla),rfl,flat_ints _,_,rfl,ite2 (fun c=>?_) (fun c=>?_)⟩
    ·refine⟨_,rfl,rfl,?_⟩
     rw[List.take_succ_eq_append_getElem jt,List.filter_append,List.map_append,List.map_append,List.filter_cons,if_pos (decide_eq_true ((hin _).mp c))]
     rfl
    ·refine⟨rfl,?_⟩
     rw[List.take_succ_eq_append_getElem jt,List.filter_append,List.filter_cons,if_neg (fun z=>c ((hin _).mpr (of_decide_eq_true z))),List.filter_nil,List.append_nil]
   rintro ys G2 yl ⟨rfl,rfl⟩ D1 hD1
   rw[List.take_of_length_le (by rw[List.length_map,h3l];exact Nat.le_refl _)]
   generalize hE1:(ties.filter fun x=>decide (x.2.1∈ord.drop (i+1))).map (·.1)=E1
   have e1l:E1.length<=60:=by
    rw[<- hE1,List.length_map]
    exact Nat.le_trans (List.length_filter_le _ _) tl
   have s2:=Same.new (o:=.lst (E1.map V.int)) hD1
   have gD1:(upd G2 D1 (.lst (E1.map V.int))) D1=some (.lst (E1.map V.int)):=upd_same
   have gla2:=s2 _ _ gla
   have gf2:=s2 _ _ gf1
   have sG2:=sG1.trans s2
   generalize (upd G2 D1 (.lst (E1.map V.int)))=G3 at s2 gD1 gla2 gf2 sG2
   refine⟨_,rfl,t,_,_,_,rfl,rfl,SqT.of (sG2 _ _ h1),rfl,ts,rfl,⟨_,SqT.of (sG2 _ _ h2)⟩,?_⟩
   refine comp_tup (K:=K) (a:=ts) (xs:=as.map V.ref) (fun j ys G4=>G4=G3/\ys=(((ties.take j).filter fun x=>decide (x.1∈ord.drop (i+1))).map (·.2.1)).map V.int) (by rw[List.length_map,sizeLine_eq];omega) ⟨rfl,rfl⟩ (fun j ys G4 _ z=>by rw[z.1];exact SqT.of (sG2 _ _ h2)) ?_ ?_
   ·rintro j x ys G4 hx ⟨rfl,rfl⟩
    obtain⟨jl,e⟩:=List.getElem?_eq_some_iff.mp hx
    rw[List.length_map]at jl
    rw[List.getElem_map]at e
    subst e
    have jt:j<ties.length:=by omega
    have hx0:=sG2 _ _ (Paired.at h3 j jl jt)
    refine⟨as[j],_,rfl,SqT.of hx0,rfl,_,_,rfl,_,_,rfl,_,_,rfl,rfl,⟨rfl,trivial⟩,?_⟩
    refine⟨_,rfl,_,rfl,la,_,rfl,.inl (SqL.of gla2),rfl,flat_ints _,_,rfl,ite2 (fun c=>?_) (fun c=>?_)⟩
    ·refine⟨_,rfl,rfl,?_⟩
     rw[List.take_succ_eq_append_getElem jt,List.filter_append,List.map_append,List.map_append,List.filter_cons,if_pos (decide_eq_true ((hin _).mp c))]
     rfl
    ·refine⟨rfl,?_⟩
     rw[List.take_succ_eq_append_getElem jt,List.filter_append,List.filter_cons,if_neg (fun z=>c ((hin _).mpr (of_decide_eq_true z))),List.filter_nil,List.append_nil]
   rintro ys G4 yl2 ⟨rfl,rfl⟩ D2 hD2
   rw[List.take_of_length_le (by rw[List.length_map,h3l];exact Nat.le_refl _)]
   generalize hE2:(ties.filter fun x=>decide (x.1∈ord.drop (i+1))).map (·.2.1)=E2
   have e2l:E2.length<=60:=by
    rw[<- hE2,List.length_map]
    exact Nat.le_trans (List.length_filter_le _ _) tl
   have s3:=Same.new (o:=.lst (E2.map V.int)) hD2
   refine⟨D1,D2,_,_,rfl,rfl,s3 _ _ gD1,upd_same,by rw[List.length_map,List.length_map,sizeLine_eq];omega,fun ed hed=>?_⟩
   rw[<- List.map_append]
   have s4:=s3.trans (Same.new (o:=.lst ((E1++E2).map V.int)) hed)
   have ged:(upd (upd G4 D2 (.lst (E2.map V.int))) ed (.lst ((E1++E2).map V.int))) ed=some (.lst ((E1++E2).map V.int)):=upd_same
   have gla3:=s4 _ _ gla2
   have gf3:=s4 _ _ gf2
   have sG3:=sG2.trans s4
   generalize (upd (upd G4 D2 (.lst (E2.map V.int))) ed (.lst ((E1++E2).map V.int)))=G5 at s4 ged gla3 gf3 sG3
   have eel:(E1++E2).length<=240:=by rw[List.length_append];omega
   generalize hEE:E1++E2=EE at ged eel
   refine⟨_,rfl,.inl ⟨rfl,_,SqL.of gf3⟩,_,rfl,ed,rfl,⟨_,SqL.of ged⟩,?_⟩
   refine comp_list (K:=K) (a:=ed) (xs:=EE.map V.int) (fun j ys G6=>G6=G5/\ys=((EE.take j).filter fun x=>!decide (x∈ord.drop (i+1))).map V.int) (by rw[List.length_map,sizeLine_eq];omega) ⟨rfl,rfl⟩ (fun j ys G6 _ z=>by rw[z.1];exact SqL.of ged) ?_ ?_
   ·rintro j x ys G6 hx ⟨rfl,rfl⟩
    obtain⟨jl,e⟩:=List.getElem?_eq_some_iff.mp hx
    rw[List.length_map]at jl
    rw[List.getElem_map]at e
    subst e
    have nin:∀ z:Int,(if true=true then !inV (V.int z) ((ord.drop (i+1)).map V.int)else inV (V.int z) ((ord.drop (i+1)).map V.int)) = !decide (z∈ord.drop (i+1)):=fun z=>by
     rw[if_pos rfl,inV_ints]
     congr 1
     rw[Bool.eq_iff_iff,List.contains_iff_mem,decide_eq_true_eq]
    refine⟨⟨rfl,trivial⟩,_,rfl,_,rfl,la,_,rfl,.inl (SqL.of gla3),rfl,flat_ints _,_,rfl,ite2 (fun c=>?_) (fun c=>?_)⟩
    ·rw[nin]at c
     refine⟨_,rfl,rfl,?_⟩
     rw[List.take_succ_eq_append_getElem jl,List.filter_append,List.map_append,List.filter_cons,if_pos c]
     rfl
    ·rw[nin]at c
     refine⟨rfl,?_⟩
     rw[List.take_succ_eq_append_getElem jl,List.filter_append,List.filter_cons,if_neg c,List.filter_nil,List.append_nil]
   rintro ys G6 yl3 ⟨rfl,rfl⟩ D3 hD3
   rw[List.take_of_length_le (by rw[List.length_map];exact Nat.le_refl _)]
   have s5:=Same.new (o:=.lst ((EE.filter fun x=>!decide (x∈ord.drop (i+1))).map V.int)) hD3
   refine⟨D3,_,rfl,SqL.of upd_same,hr.hd,?_,fun st hst=>⟨st,_,rfl,upd_same,?_⟩⟩
   ·have:=List.length_filter_le (fun x=>!decide (x∈ord.drop (i+1))) EE
    unfold scanBound
    omega
   have cnt:(nub (EE.filter fun x=>!decide (x∈ord.drop (i+1)))).length=(openAt (prs ties) ord i).length:=by
    refine count_open nd (fun x hx=>?_) fun p=>?_
    ·obtain⟨y,hy,e⟩:=List.mem_map.mp hx
     obtain⟨a1,a2,a3,_⟩:=ok y hy
     rw[<- e]
     exact⟨pm.mem_iff.mpr (mem_upto'.mpr ⟨a1,by show y.1<n;omega⟩),pm.mem_iff.mpr (mem_upto'.mpr ⟨by show 0<=y.2.1;omega,a3⟩)⟩
    ·rw[List.mem_filter,<- hEE,List.mem_append]
     have m1:p∈E1↔∃ x∈ties,x.1=p/\x.2.1∈ord.drop (i+1):=by
      rw[<- hE1,List.mem_map]
      exact⟨fun⟨x,hx,e⟩=>⟨x,(List.mem_filter.mp hx).1,e,of_decide_eq_true (List.mem_filter.mp hx).2⟩,fun⟨x,hx,e,h⟩=>⟨x,List.mem_filter.mpr ⟨hx,decide_eq_true h⟩,e⟩⟩
     have m2:p∈E2↔∃ x∈ties,x.2.1=p/\x.1∈ord.drop (i+1):=by
      rw[<- hE2,List.mem_map]
      exact⟨fun⟨x,hx,e⟩=>⟨x,(List.mem_filter.mp hx).1,e,of_decide_eq_true (List.mem_filter.mp hx).2⟩,fun⟨x,hx,e,h⟩=>⟨x,List.mem_filter.mpr ⟨hx,decide_eq_true h⟩,e⟩⟩
     rw[m1,m2]
     have tt:tied (prs ties) (ord.drop (i+1)) p↔(∃ x∈ties,x.1=p/\x.2.1∈ord.drop (i+1))\/∃ x∈ties,x.2.1=p/\x.1∈ord.drop (i+1):=by
      constructor
      ·rintro⟨x,hx,h⟩
       obtain⟨y,hy,e⟩:=List.mem_map.mp hx
       subst e
       rcases h with h | h
       ·exact .inl ⟨y,hy,h⟩
       ·exact .inr ⟨y,hy,h⟩
      ·rintro(⟨y,hy,h⟩ |⟨y,hy,h⟩)
       ·exact⟨_,List.mem_map.mpr ⟨y,hy,rfl⟩,.inl h⟩
       ·exact⟨_,List.mem_map.mpr ⟨y,hy,rfl⟩,.inr h⟩
     rw[tt]
     simp
   rw[cnt]
   have s6:=s5.trans (Same.new (o:=setI (EE.filter fun x=>!decide (x∈ord.drop (i+1)))) hst)
   have il2:i <(lens (prs ties) ord).length:=by omega
   refine⟨fo,_,_,rfl,rfl,s6 _ _ gf3,by rw[List.length_map,List.length_take,sizeLine_eq];omega,_,_,_,rfl,?_,same_put (sG3.trans s6) hfo⟩
   rw[upd_same,List.take_succ_eq_append_getElem il2,List.map_append,lens_get il2]
   rfl
  ·rintro σ G ⟨v3,v4,v5,rfl,gf,sG⟩
   rw[List.take_of_length_le (by omega)]at gf
   exact⟨_,rfl,q fo G gf sG⟩
end
open PySem L2 PyProof.Rows
open Nar (Row Vl)
theorem at0{x:V}{r:List V}:atI (x :: r) 0=some x:=atI_nat (j:=0) rfl
theorem at1{x y:V}{r:List V}:atI (x :: y :: r) 1=some y:=atI_nat (j:=1) rfl
theorem at2{x y z:V}{r:List V}:atI (x :: y :: z :: r) 2=some z:=atI_nat (j:=2) rfl
theorem cutV_frm(xs:List V)(j:Nat):cutV xs (some (j:Int)) none=xs.drop j:=by
 unfold cutV
 rw[HT.sIx_nat,HT.sIx_none]
 by_cases h:j<=xs.length
 ·rw[Nat.min_eq_left h,List.take_of_length_le (by rw[List.length_drop];lia)]
 ·rw[Nat.min_eq_right (by lia),List.drop_length,List.take_nil,List.drop_of_length_le (by lia)]
theorem cutV_til(xs:List V)(j:Nat):cutV xs none (some (j:Int))=xs.take j:=by
 unfold cutV
 rw[HT.sIx_nat,HT.sIx_none,List.drop_zero,Nat.sub_zero]
 by_cases h:j<=xs.length
 ·rw[Nat.min_eq_left h]
 ·rw[Nat.min_eq_right (by lia),List.take_length,List.take_of_length_le (by lia)]
noncomputable def VlAt(H:Hp)(a:Addr)(v:Vl):Prop:=∃ r,H a=some (.tup [.int v.1,.ref r,.int v.2.2])/\H r=some (.tup (v.2.1.map oI))
theorem VlAt.same{H H':Hp}{a:Addr}{v:Vl}(h:VlAt H a v)(s:Same H H'):VlAt H' a v:=by
 obtain⟨r,h1,h2⟩:=h
 exact⟨r,s _ _ h1,s _ _ h2⟩
inductive spGiI(vs:List V)(H:Hp)(Q:VK):Prop where
 |mk (o:Addr) (r:Row) (p:Nat) (q:Int) (h1:vs=[.ref o,.int p,.int q]) (h2:H o=some (.tup (r.map oI))) (h3:p<r.length) (h4:r.length<=1000) (h5:∀ (u:Addr) (H':Hp),H' u=some (.tup ((Nar.giv r p q).map oI))->Same H H'->Q (.ref u) H')
noncomputable def spGi:Sp:=fun vs H Q _=>spGiI vs H Q
inductive spPfI(vs:List V)(H:Hp)(Q:VK):Prop where
 |mk (t o:Addr) (as:List Addr) (L:List (Int×Int)) (r:Row) (q:Int) (h1:vs=[.ref t,.ref o,.int q]) (h2:H t=some (.lst (as.map V.ref))) (h3:Paired (fun c (x:Int×Int)=>H c=some (.tup [.int x.1,.int x.2])) as L) (h4:H o=some (.tup (r.map oI))) (h5:(∀ x∈L,0<=x.1/\x.1.toNat<r.length)) (h6:L.length<=1000) (h7:∀ H',Same H H'->Q (.int (L.map (Nar.inO r q)).sum) H')
noncomputable def spPf:Sp:=fun vs H Q _=>spPfI vs H Q
inductive spJnI(vs:List V)(H:Hp)(Q:VK):Prop where
 |mk (a b:Addr) (v w:Vl) (h1:vs=[.ref a,.ref b]) (h2:VlAt H a v) (h3:VlAt H b w) (h4:LikeO w.2.1 v.2.1) (h5:∀ (c:Addr) (H':Hp),VlAt H' c (Nar.jn v w)->Same H H'->Q (.ref c) H')
noncomputable def spJn:Sp:=fun vs H Q _=>spJnI vs H Q
theorem at_row{r:Row}{f:Int}(h0:0<=f)(h:f.toNat<r.length):atI (r.map oI) f=some (oI (Nar.atR r f)):=by
 obtain⟨k,rfl⟩:∃ k:Nat,f=(k:Int):=⟨f.toNat,by omega⟩
 rw[Int.toNat_natCast]at h
 refine atI_nat ?_
 unfold Nar.atR
 rw[Int.toNat_natCast,List.getElem?_map,List.getElem?_eq_getElem h]
 rfl
theorem jn_eq{v w:Vl}(e:v.1=w.1):Nar.jn v w=(v.1,(if lexO w.2.1 v.2.1=true then w.2.1 else v.2.1),v.2.2+w.2.2):=by
 unfold Nar.jn
 rw[if_neg (fun z=>z e)]
section
variable{P:Program}{w:World}{K:PySem.W.Frag}{mg:Str->Option Value}{base:Heap}
noncomputable abbrev nGi:List Str:=["owners","place","post"]
theorem scGi:FnScope nGi ["owners","place","post"] (defScope sGiven):=⟨rfl,rfl,rfl,by decide +kernel,rfl,by decide +kernel,by decide +kernel⟩
theorem ok_gi{f:Addr}{fd:FuncData}(F:Fun K "given" "given" sGiven f fd):FnOk P w K mg base CX0 1 f fd ["owners","place","post"] spGi:=by
 refine F.ok scGi (fun vs H Q E h=>?_) (fun cdv A outer s H vs Q E hr h=>?_)
 ·obtain⟨o,r,p,q,rfl,_⟩:=h
  rfl
 ·obtain⟨o,r,p,q,rfl,ho,hp,rl,fin⟩:=h
  refine⟨_,(pss_one (ps_ret (pe_op op_catB (pe_op op_catB (pe_slice sl_tupA (pv 0) po_none (po_some (pv 1))) (@pe_tup _ _ _ _ _ (@pa_nam _ _ _ _ _ _ (pv 2) pa_nil))) (pe_slice sl_tupA (pv 0) (po_some (pe_op op_add (pv 1) pe_int)) po_none)))),?_⟩
  refine⟨_,rfl,_,rfl,_,rfl,o,_,rfl,ho,fun c1 H1 s1 g1=>?_⟩
  refine⟨_,rfl,(by show 1<=sizeLine;decide),fun c2 h2=>?_⟩
  have s2:=Same.new (o:=.tup [V.int q]) h2
  refine⟨c1,c2,_,_,rfl,rfl,s2 _ _ g1,upd_same,by rw[cutV_til,List.length_take,List.length_map,sizeLine_eq];show _+1<=_;omega,fun c3 H3 s3 g3=>?_⟩
  have s13:=(s1.trans s2).trans s3
  refine⟨_,rfl,_,rfl,_,_,rfl,rfl,_,rfl,o,_,rfl,s13 _ _ ho,fun c4 H4 s4 g4=>?_⟩
  refine⟨c3,c4,_,_,rfl,rfl,s4 _ _ g3,g4,?_,fun c5 H5 s5 g5=>?_⟩
  ·have:=cutV_length (r.map oI) none (some (p:Int))
   have:=cutV_length (r.map oI) (some ((p:Int)+1)) none
   rw[List.length_append,sizeLine_eq]
   rw[List.length_map]at *
   show _+1+_<=_
   omega
  ·refine fin c5 H5 ?_ (s13.trans (s4.trans s5))
   rw[g5,cutV_til,show((p:Int)+1)=((p+1:Nat):Int) by omega,cutV_frm]
   unfold Nar.giv
   rw[Int.toNat_natCast,List.set_eq_take_append_cons_drop,if_pos hp,List.map_append,List.map_cons,List.map_take,List.map_drop,List.append_assoc]
   rfl
noncomputable abbrev nPf:List Str:=["ties","owners","post"]
theorem scPf:FnScope nPf ["ties","owners","post"] (defScope sPartedFrom):=⟨rfl,rfl,rfl,by decide +kernel,rfl,by decide +kernel,by decide +kernel⟩
theorem csPf1:CompScope ["far","weight","owners","post"] [none,none,some 1,some 2] nPf (defScope sPartedFrom) (scO [(".0",.local),("far",.local),("weight",.local),("owners",.free),("post",.free)]):=⟨rfl,by decide +kernel,by decide +kernel,by decide +kernel,rfl,capB_ok (by decide +kernel)⟩
theorem ndPf1:(["far","weight","owners","post"]:List Str).Nodup:=by decide +kernel
theorem ok_pf{f:Addr}{fd:FuncData}(F:Fun K "parted_from" "parted_from" sPartedFrom f fd)(T:Txt mg):FnOk P w K mg base CX0 1 f fd ["ties","owners","post"] spPf:=by
 refine F.ok scPf (fun vs H Q E h=>?_) (fun cdv A outer s H vs Q E hr h=>?_)
 ·obtain⟨t,o,as,L,r,q,rfl,_⟩:=h
  rfl
 ·obtain⟨t,o,as,L,r,q,rfl,ht,pa,ho,rg,Ll,fin⟩:=h
  have al:=pa.length
  refine⟨_,(pss_one (ps_ret (pe_callB (call_sumH rfl) (by rfl) T.sum boot_sum (@pa_comp _ _ _ _ _ _ _ _ (pe_comp rfl csPf1 (pi_list (pv 0)) (fun C s H fp=>(pg_tupK K rfl (n:=2) rfl (pgs_cons (pg_name (i:=0) ndPf1 rfl (Or.inl rfl)) (pgs_cons (pg_name (i:=1) ndPf1 rfl (Or.inl rfl)) pgs_nil)) rfl rfl)) (fun C s H fp=>(pf_one (PW.pt (pw_and (pt_cmp (pc_notN (@pe_ix _ _ _ _ _ _ _ ix_tupH (pv 2) (pv 0) (fun _ _=>rfl)))) (pw_and1 (pt_cmpR op_ne (@pe_ix _ _ _ _ _ _ _ ix_tupH (pv 2) (pv 0) (fun _ _=>rfl)) (pv 3) (nomark _))))))) (fun C s H fp=>(pv 1))) pa_nil)))),?_⟩
  refine⟨_,rfl,t,rfl,⟨_,SqL.of ht⟩,?_⟩
  refine comp_list (K:=K) (a:=t) (xs:=as.map V.ref) (fun i zs G=>Same H G/\∃ ws:List Int,zs=ws.map V.int/\ws.sum=((L.take i).map (Nar.inO r q)).sum) (by rw[List.length_map,sizeLine_eq];omega) ⟨Same.refl _,[],rfl,rfl⟩ (fun i zs G _ z=>SqL.of (z.1 _ _ ht)) ?_ ?_
  ·rintro i x zs G hx ⟨sG,ws,rfl,sw⟩
   obtain⟨il,e⟩:=List.getElem?_eq_some_iff.mp hx
   rw[List.length_map]at il
   rw[List.getElem_map]at e
   subst e
   have iL:i<L.length:=by omega
   have gx:=sG _ _ (Paired.at pa i il iL)
   obtain⟨x0,x1⟩:=rg _ (List.getElem_mem iL)
   have ax:=at_row x0 x1
   have tk:((L.take (i+1)).map (Nar.inO r q)).sum=((L.take i).map (Nar.inO r q)).sum+Nar.inO r q L[i]:=by
    rw[List.take_succ_eq_append_getElem iL,List.map_append,List.sum_append,List.map_singleton,List.sum_singleton]
   rw[tk]
   generalize L[i]=x at *
   refine⟨as[i],_,rfl,SqT.of gx,rfl,_,_,rfl,_,_,rfl,rfl,⟨rfl,rfl,trivial⟩,?_⟩
   refine⟨_,rfl,_,rfl,o,_,_,_,rfl,rfl,sG _ _ ho,ax,_,rfl,?_⟩
   have e0:Nar.inO r q x=(match Nar.atR r x.1 with | some y=>if y=q then 0 else x.2 | none=>0):=rfl
   rw[e0]
   cases ey:Nar.atR r x.1 with
   |none =>
    refine iteF ?_
    exact⟨sG,ws,rfl,by rw[sw];simp⟩
   |some y =>
    refine iteT ?_
    rw[ey]at ax
    refine⟨_,rfl,_,rfl,o,_,_,_,rfl,rfl,sG _ _ ho,ax,_,rfl,rfl,_,rfl,ite2 (fun h=>?_) (fun h=>?_)⟩
    ·have ne:¬ y=q:=fun z=>by
      have:decide (V.int y=V.int q)=true:=decide_eq_true (by rw[z])
      have h:(!decide (V.int y=V.int q))=true:=h
      rw[this]at h
      cases h
     refine⟨_,rfl,sG,ws++[x.2],by rw[List.map_append];rfl,?_⟩
     show(ws++[x.2]).sum=_+(if y=q then 0 else x.2)
     rw[if_neg ne,List.sum_append,List.sum_singleton,sw]
    ·have e:y=q:=by
      by_cases z:V.int y=V.int q
      ·injection z
      ·exact absurd (by show(!decide (V.int y=V.int q))=true;rw[decide_eq_false z];rfl) h
     refine⟨sG,ws,rfl,?_⟩
     show _=_+(if y=q then 0 else x.2)
     rw[if_pos e,sw]
     omega
  ·rintro zs G _ ⟨sG,ws,rfl,sw⟩ D hD
   rw[List.length_map,al,List.take_length]at sw
   refine⟨D,_,rfl,upd_same,?_⟩
   rw[sw]
   exact fin _ (sG.trans (Same.new hD))
noncomputable abbrev nJn:List Str:=["one","other"]
theorem scJn:FnScope nJn ["one","other"] (defScope sJoined):=⟨rfl,rfl,rfl,by decide +kernel,rfl,by decide +kernel,by decide +kernel⟩
theorem ok_jn{f:Addr}{fd:FuncData}(F:Fun K "joined" "joined" sJoined f fd)(T:Txt mg):FnOk P w K mg base CX0 1 f fd ["one","other"] spJn:=by
 refine F.ok scJn (fun vs H Q E h=>?_) (fun cdv A outer s H vs Q E hr h=>?_)
 ·obtain⟨a,b,v,w,rfl,_⟩:=h
  rfl
 ·obtain⟨a,b,v,w,rfl,⟨ra,ha,hra⟩,⟨rb,hb,hrb⟩,lk,fin⟩:=h
  have hu1:(A.deeper (envOfC "joined" (defScope sJoined) s.heap.objs.size f cdv)).units+1<cLine:=by have:=hr.un;omega
  refine⟨_,(pss_cons (ps_if (pt_cmpR op_ne (@pe_ix _ _ _ _ _ _ _ ix_tupH (pv 0) pe_int (fun _ _=>rfl)) (@pe_ix _ _ _ _ _ _ _ ix_tupH (pv 1) pe_int (fun _ _=>rfl)) (nomark _)) (pss_one (ps_ret (pe_callB (call_min3 rfl hu1) (by rfl) T.min boot_min (@pa_nam _ _ _ _ _ _ (pv 0) (@pa_nam _ _ _ _ _ _ (pv 1) pa_nil))))) pss_nil)
   (pss_one (ps_ret (@pe_tup _ _ _ _ _ (@pa_sub _ _ _ _ _ _ _ (@pe_ix _ _ _ _ _ _ _ ix_tupH (pv 0) pe_int (fun _ _=>rfl)) (@pa_call _ _ _ _ _ _ _ _ (pe_callB (call_minO rfl hu1) (by rfl) T.min boot_min (@pa_sub _ _ _ _ _ _ _ (@pe_ix _ _ _ _ _ _ _ ix_tupH (pv 0) pe_int (fun _ _=>rfl)) (@pa_sub _ _ _ _ _ _ _ (@pe_ix _ _ _ _ _ _ _ ix_tupH (pv 1) pe_int (fun _ _=>rfl)) pa_nil))) (@pa_bin _ _ _ _ _ _ _ _ (pe_op op_add (@pe_ix _ _ _ _ _ _ _ ix_tupH (pv 0) pe_int (fun _ _=>rfl)) (@pe_ix _ _ _ _ _ _ _ ix_tupH (pv 1) pe_int (fun _ _=>rfl))) pa_nil))))))),?_⟩
  refine⟨_,rfl,a,_,_,_,rfl,rfl,ha,at0,_,rfl,b,_,_,_,rfl,rfl,hb,at0,rfl,_,rfl,ite2 (fun h=>?_) (fun h=>?_)⟩
  ·have ne:v.1≠w.1:=fun z=>by
    have:decide (V.int v.1=V.int w.1)=true:=decide_eq_true (by rw[z])
    rw[this]at h
    cases h
   refine⟨_,rfl,_,rfl,a,b,v.1,w.1,_,_,_,_,rfl,ha,hb,ne,?_⟩
   refine fin _ H ?_ (Same.refl _)
   unfold Nar.jn
   rw[if_pos ne]
   by_cases z:w.1<v.1
   ·rw[if_pos z,if_pos z];exact⟨rb,hb,hrb⟩
   ·rw[if_neg z,if_neg z];exact⟨ra,ha,hra⟩
  ·have e:v.1=w.1:=by
    by_cases z:V.int v.1=V.int w.1
    ·injection z
    ·exact absurd (by rw[decide_eq_false z];rfl) h
   refine⟨_,rfl,a,_,_,_,rfl,rfl,ha,at0,_,rfl,a,_,_,_,rfl,rfl,ha,at1,_,rfl,b,_,_,_,rfl,rfl,hb,at1,ra,rb,v.2.1,w.2.1,rfl,hra,hrb,lk,?_⟩
   refine⟨_,rfl,a,_,_,_,rfl,rfl,ha,at2,_,rfl,b,_,_,_,rfl,rfl,hb,at2,_,_,rfl,rfl,(by show 3<=sizeLine;decide),fun c hc=>?_⟩
   obtain⟨rc,erc,hrc⟩:∃ rc,rc=(if lexO w.2.1 v.2.1=true then rb else ra)/\H rc=some (HO.tup ((if lexO w.2.1 v.2.1=true then w.2.1 else v.2.1).map oI)):=by
    refine⟨_,rfl,?_⟩
    by_cases z:lexO w.2.1 v.2.1=true
    ·rw[if_pos z,if_pos z];exact hrb
    ·rw[if_neg z,if_neg z];exact hra
   rw[<- erc]
   have sc:=Same.new (o:=.tup [V.int v.1,V.ref rc,V.int (v.2.2+w.2.2)]) hc
   refine fin c _ ?_ sc
   rw[jn_eq e]
   exact⟨rc,upd_same,sc _ _ hrc⟩
end
end K45
namespace L2
open PySem PySem.W PyProof.Rows
noncomputable def tDispT(tk tv:TE):TE:=fun σ H Q=>∀ p,H p=none->tk σ (upd H p (.dT [])) fun x H1=>tv σ H1 fun y H2=>∃ H3,DPut H2 p x y H3/\Q (.ref p) H3
section
variable{X:Cx}
theorem pe_dispT{k v:Expr}{tk tv:TE}{pos:Pos}(hu:X.A.units<cLine)(hk:PE X k tk)(hv:PE X v tv):PE X (.Dict [some k] [v] pos) (tDispT tk tv):=by
 intro pins s σ H Q I q
 have hn:=I.hok.fresh (Nat.le_refl s.heap.objs.size)
 have I1:=I.laid (a:=s.heap.objs.size) (o:=.dT []) (h':=s.heap.push { cls:=.type "dict",data:=.dict #[] }) (t':=s.toks) (fun _ _ q=>Heap.get?_push_of_some _ q) (Nat.le_refl _) (dt_empty s.heap I.big)
 rw[arm_eval_Dict,zip_pairTrees [some k] [v] X.env pos rfl rfl,dictDisplay_pairs (pairTrees [some k] [v] X.env pos) (by intro z;have:=congrArg List.length z;rw[pairTrees_length [some k] [v] X.env pos rfl rfl]at this;cases this) (by rw[pairTrees_length [some k] [v] X.env pos rfl rfl];show 1<17;decide)]
 refine wpAny_bind (wpAny_standAt (wpAny_bind ?_))
 unfold subDict;refine wpAny_bind (wpAny_alloc (wpAny_bind (wpAny_holding ?_)))
 rw[if_pos (by rw[pairTrees_length [some k] [v] X.env pos rfl rfl];show 1<=15;decide)]
 refine wpAny_bind (pairTrees_cons_walk (thn (hk pins _ σ _ _ I1 (q _ hn)) fun u s1 ⟨x,H1,I1',rx,q1⟩=>thn (hv pins s1 σ H1 _ I1' q1) fun w2 s2 ⟨y,H2,I2,ry,H3,dp,q2⟩=>pairTrees_nil_walk ?_))
 refine wpAny_holding (wpAny_bind ?_)
 simp only[List.forIn_cons,List.forIn_nil]
 refine wpAny_bind (wpAny_bind (d_set hu I2 dp rx ry fun s' I3=>wpAny_pure ?_))
 refine wpAny_pure (wpAny_pure (wpAny_pure (wpAny_pure ⟨.ref s.heap.objs.size,H3,I3,rfl,q2⟩)))
end
open PySem PySem.W PyProof.Rows Srt
section
variable{K:PySem.W.Frag}{a:Addr}{xs:List V}{b:Bool}{g:TG}{tc:TT}{body:TB}{σ:St}{H1:Hp}{Q:Hp->Prop}
noncomputable def iAny(K:PySem.W.Frag)(tl:TE):TI:=fun σ H R=>tl σ H fun x H1=>∃ a b,x = .ref a/\(∃ xs,SqB b K H1 a xs)/\R (ItB b K a) H1
theorem pi_any{X:Cx}{tg l:Expr}{tl:TE}(hl:PE X l tl):PI X tg l (iAny X.K tl):=by
 intro pins s σ H R I h
 refine thn (hl pins s σ H _ I h) fun v s1 ⟨x,H1,I1,r1,q1⟩=>?_
 obtain⟨a,b,e,⟨xs,hq⟩,q⟩:=q1
 subst e
 cases r1
 cases b
 ·obtain⟨its,rv,p,hz⟩:=I1.list hq
  refine wpAny_pyIter_list p.isList ?_
  refine⟨s1.heap.objs.size,[s1.heap.objs.size],_,_,H1,rfl,I1.kept (t':=s1.toks) fun b o e=>Heap.get?_push_of_some _ e,turn_list a _,⟨_,Heap.get?_push_size _ rfl,rfl,rfl⟩,fun b hb=>?_,q⟩
  have e:b=s1.heap.objs.size:=by simpa using hb
  subst e
  exact I1.fpOk (Nat.le_refl _) (I1.hok.fresh (Nat.le_refl _))
 ·obtain⟨its,rv,p,hz⟩:=I1.tuple hq
  refine wpAny_pyIter_tuple (show s1.heap.IsTuple a its.toArray from p) ?_
  refine⟨s1.heap.objs.size,[s1.heap.objs.size],_,_,H1,rfl,I1.kept (t':=s1.toks) fun b o e=>Heap.get?_push_of_some _ e,turn_tuple a _,⟨_,Heap.get?_push_size _ rfl,rfl,rfl⟩,fun b hb=>?_,q⟩
  have e:b=s1.heap.objs.size:=by simpa using hb
  subst e
  exact I1.fpOk (Nat.le_refl _) (I1.hok.fresh (Nat.le_refl _))
end
open PySem PySem.W PyProof.Rows Builtin
open PySem.AutoSeq1 (wpAny_loadPart')
theorem noFill_tup:fillsNumberSlot (.type "tuple") "mul" = pure false :=
 PySem.fillsNumberSlot_seq (id:="tuple.__mul__") (r:=some (.builtin "tuple.__rmul__")) (F.slot_tuple_mul.lookup) (by decide +kernel) (F.slot_tuple_rmul.lookup) (by decide +kernel)
theorem rep_tup:seqRepeat? (.type "tuple")=pure (some (.builtin "tuple.__mul__")):=by
 unfold seqRepeat?
 rw[PySem.seqSlot_of (T:="tuple") (name:="__mul__") (id:="tuple.__mul__") (F.slot_tuple_mul.lookup) (by decide +kernel)]
 rw[PySem.seqSlot_of (T:="tuple") (name:="__rmul__") (id:="tuple.__rmul__") (F.slot_tuple_rmul.lookup) (by decide +kernel)]
 rfl
theorem rmul_tup(a:Int)(t:Tok)(l:Addr)(o:Obj)(items:Array Value)(n:Nat)(hc:o.cls = .type "tuple")(hd:o.data = .seq items n) :
  Meets (Builtin.«int.__rmul__» ⟨[.int a t,.ref l],[]⟩) (fun _ R s=>s.heap.get? l=some o/\R (.ok (.ret Value.notImplemented)) s) :=
 .of_wp fun _ _ _ _ s h=>by
  obtain⟨oc,od,oa,os'⟩:=o
  cases hc
  cases hd
  obtain⟨hp,gs,dr,tk,sy⟩:=s
  obtain⟨hl,h⟩:=h
  wp_walk
  exact⟨_,rfl,h⟩
theorem mul_tup2(l:Addr)(o:Obj)(items:Array Value)(n:Nat)(x:Int)(u:Tok)(hc:o.cls = .type "tuple")(hd:o.data = .seq items n)(x2:2<=x)(xl:x<2 ^ 63)(ne:items.isEmpty=false)(hz:items.size * x<=(sizeLine:Int))(hz2:((List.replicate x.toNat items).foldl (·++·) #[]).size<=sizeLine) :
  Meets (Builtin.«tuple.__mul__» ⟨[.ref l,.int x u],[]⟩) (fun _ R s=>s.heap.get? l=some o/\R (.ok (.ret (.ref s.heap.objs.size))) { s with heap:=s.heap.push { cls:=.type "tuple",data:=.seq ((List.replicate x.toNat items).foldl (·++·) #[]) } }) :=
 .of_wp fun _ _ _ _ s h=>by
  obtain⟨oc,od,oa,os'⟩:=o
  cases hc
  cases hd
  obtain⟨hp,gs,dr,tk,sy⟩:=s
  obtain⟨hl,h⟩:=h
  have hT:Shared.TypeIs ⟨hp,gs,dr,tk,sy⟩ (.ref l) "tuple":=⟨_,hl,rfl⟩
  have c1:(decide (x < -2 ^ 63) || decide (x >= 2 ^ 63))=false:=by rw[decide_eq_false (by omega),decide_eq_false (by omega)];rfl
  have c2:(items.isEmpty || x == 1)=false:=by rw[ne,Bool.false_or];exact beq_eq_false_iff_ne.mpr (by omega)
  have c3:(decide (x<=0) || items.isEmpty)=false:=by rw[ne,decide_eq_false (by omega)];rfl
  have c4:¬(items.size:Int) * x > (2 ^ 63-1) / 8:=by rw[sizeLine_eq]at hz;omega
  have c5:Tuple.tupleTooMany ((items.size:Int) * x)=false:=by unfold Tuple.tupleTooMany;exact decide_eq_false (by omega)
  wp_walk using wpAny_typeOf hT,wpAny_loadPart' hl
  rw[c1,if_neg (by decide)]
  wp_walk using wpAny_typeOf hT,wpAny_loadPart' hl
  rw[c2,if_neg (by decide)]
  wp_walk using wpAny_typeOf hT,wpAny_loadPart' hl
  rw[c3,if_neg (by decide)]
  wp_walk using wpAny_typeOf hT,wpAny_loadPart' hl
  rw[if_neg c4]
  wp_walk using wpAny_typeOf hT,wpAny_loadPart' hl
  exact⟨_,rfl,h⟩
theorem mul_tup1(l:Addr)(o:Obj)(items:Array Value)(n:Nat)(u:Tok)(hc:o.cls = .type "tuple")(hd:o.data = .seq items n) :
  Meets (Builtin.«tuple.__mul__» ⟨[.ref l,.int 1 u],[]⟩) (fun _ R s=>s.heap.get? l=some o/\R (.ok (.ret (.ref l))) s) :=
 .of_wp fun _ _ _ _ s h=>by
  obtain⟨oc,od,oa,os'⟩:=o
  cases hc
  cases hd
  obtain⟨hp,gs,dr,tk,sy⟩:=s
  obtain⟨hl,h⟩:=h
  have hT:Shared.TypeIs ⟨hp,gs,dr,tk,sy⟩ (.ref l) "tuple":=⟨_,hl,rfl⟩
  have c1:(decide ((1:Int) < -2 ^ 63) || decide ((1:Int) >= 2 ^ 63))=false:=by decide
  have c2:(items.isEmpty ||(1:Int) == 1)=true:=by rw[show((1:Int) == 1)=true from rfl,Bool.or_true]
  wp_walk using wpAny_typeOf hT,wpAny_loadPart' hl
  exact⟨_,rfl,h⟩
section
variable{X:Cx}
inductive rRepTI(x:V)(y:V)(H:Hp)(Q:VK):Prop where
 |mk (l:_) (k:_) (xs:_) (h1:x = .ref l) (h2:y = .int k) (h3:H l=some (.tup xs)) (h4:xs≠[]) (h5:1<=k) (h6:k<2 ^ 63) (h7:xs.length * k.toNat<=sizeLine) (h8:(k=1->Q (.ref l) H)) (h9:∀ p,H p=none->Q (.ref p) (upd H p (.tup (List.replicate k.toNat xs).flatten)))
noncomputable def rRepT:R2:=fun x y H Q=>rRepTI x y H Q
theorem op_repT:OpR X (binaryOp .Mult) rRepT:=by
 intro pins s σ H x y v u Q I rx ry h
 obtain⟨l,k,xs,rfl,rfl,hH,hne,h1,h2,hz,q1,q⟩:=h
 cases rx
 obtain⟨t,rfl⟩:=ry
 obtain⟨its,r,pl,_⟩:=I.tuple (SqT.of hH)
 obtain⟨o,e,hc,n,hd⟩:=pl
 have hlen:=r.length
 have road:=fun(c:_)=>wpAny_binaryOp_repeat_ref (M:=model X.prog X.w) (A:=X.A) (E:=X.xe) (s:=s) (a:=.ref l) (n:=.int k t) (T:="tuple") (U:="int") (Q:=fun v s'=>∃ y H',Inv X pins σ H' s'/\RelV y v/\Q y H') (by decide) ⟨_,e,hc⟩ (fun s'=>typeIs_int s' k t) noFill_tup F.fills_int_mul F.slot_int_rmul rep_tup F.slot_int_index.lookup c
 refine road (call_meets F.slot_int_rmul (typeIs_int s k t) F.entry_int_rmul (F.args_int_rmul_2 _ _) (rmul_tup k t l o its.toArray n hc hd) ⟨e,rfl,⟨_,e,hc⟩,?_⟩)
 by_cases k1:k=1
 ·subst k1
  exact call_meets F.slot_tuple_mul ⟨_,e,hc⟩ F.entry_tuple_mul (F.args_tuple_mul_2 _ _) (mul_tup1 l o its.toArray n t hc hd) ⟨e,.ref l,H,I,rfl,q1 rfl⟩
 ·have i0:its≠[]:=fun z=>hne (List.eq_nil_of_length_eq_zero (by rw[hlen,z];rfl))
  have hnew:List.foldl (fun x1 x2=>x1++x2) #[] (List.replicate k.toNat its.toArray)=(List.replicate k.toNat its).flatten.toArray:=by
   have:=foldl_rep its k.toNat []
   rw[List.nil_append]at this
   exact this
  have hz':its.length * k.toNat<=sizeLine:=by rw[<- hlen];exact hz
  have hzi:(its.toArray.size:Int) * k<=(sizeLine:Int):=by
   rw[List.size_toArray]
   have:(its.length:Int) * k=((its.length * k.toNat:Nat):Int):=by rw[Int.natCast_mul,Int.toNat_of_nonneg (by omega)]
   rw[this]
   exact Int.ofNat_le.mpr hz'
  refine call_meets F.slot_tuple_mul ⟨_,e,hc⟩ F.entry_tuple_mul (F.args_tuple_mul_2 _ _) (mul_tup2 l o its.toArray n k t hc hd (by omega) h2 (by cases its with | nil=>exact absurd rfl i0 | cons a b=>rfl) hzi (by rw[hnew,List.size_toArray,len_rep,Nat.mul_comm];exact hz')) ⟨e,?_⟩
  rw[hnew]
  refine⟨.ref _,_,I.laid (t':=s.toks) (fun b o e=>Heap.get?_push_of_some _ e) (Nat.le_refl _) (show ObjOk X.prog X.w _ _ _ (.tup (List.replicate k.toNat xs).flatten)from⟨by rw[len_rep,Nat.mul_comm];exact hz,(List.replicate k.toNat its).flatten,r.rep k.toNat,IsTup.new _ _⟩),rfl,q _ (I.hok.fresh (Nat.le_refl _))⟩
end
end L2
namespace K45
open PySem L2 PyProof.Rows
open Nar (Row Vl RL ch ky pl DI InR OrdN OpN)
theorem PairedA{α β:Type}{F:α->β->Prop}{a a':List α}{b b':List β}(h:Paired F a b)(h':Paired F a' b'):Paired F (a++a') (b++b'):=by
 induction h with
 |nil=>exact h'
 |cons r _ ih=>exact .cons r ih
noncomputable abbrev kI(k:List Int):List Key:=k.map Sum.inl
theorem kI_map(k:List Int):(kI k).map kV=k.map V.int:=by
 rw[List.map_map]
 rfl
theorem kI_inj{k k':List Int}:kI k=kI k'↔k=k':=by
 constructor
 ·intro h
  exact(List.map_inj_right fun _ _ z=>by injection z).mp h
 ·intro h
  rw[h]
noncomputable def PrE(G:Hp)(p:List Key×V)(e:List Int×Vl):Prop:=p.1=kI e.1/\∃ a,p.2 = .ref a/\VlAt G a e.2
theorem PrE.to{G G':Hp}{p:List Key×V}{e:List Int×Vl}(h:PrE G p e)(k:∀ a xs,G a=some (.tup xs)->G' a=some (.tup xs)):PrE G' p e:=by
 obtain⟨h1,a,h2,r,h3,h4⟩:=h
 exact⟨h1,a,h2,r,k _ _ h3,k _ _ h4⟩
theorem any_keys{G:Hp}{kvs:List (List Key×V)}{kv:List (List Int×Vl)}(h:Paired (PrE G) kvs kv)(k:List Int):(kvs.any fun x=>decide (x.1=kI k))=(kv.any fun e=>decide (e.1=k)):=by
 induction h with
 |nil=>rfl
 | @cons p e _ _ hp _ ih =>
  rw[List.any_cons,List.any_cons,ih]
  congr 1
  rw[hp.1,decide_eq_decide]
  exact kI_inj
theorem put_keys{G:Hp}{kvs:List (List Key×V)}{kv:List (List Int×Vl)}(h:Paired (PrE G) kvs kv){k:List Int}{a:Addr}{v:Vl}(hv:VlAt G a v):Paired (PrE G) (putK kvs (kI k) (.ref a)) (Nar.pt kv k v):=by
 unfold putK Nar.pt
 rw[any_keys h k]
 by_cases z:(kv.any fun e=>decide (e.1=k))=true
 ·rw[if_pos z,if_pos z]
  clear z
  induction h with
  |nil=>exact .nil
  | @cons p e _ _ hp _ ih =>
   refine .cons ?_ ih
   show PrE G (if p.1=kI k then(p.1,V.ref a)else p) (if e.1=k then(e.1,v)else e)
   by_cases y:e.1=k
   ·have y':p.1=kI k:=by rw[hp.1,y]
    rw[if_pos y',if_pos y]
    exact⟨hp.1,a,rfl,hv⟩
   ·have y':¬p.1=kI k:=by rw[hp.1];exact fun w=>y (kI_inj.mp w)
    rw[if_neg y',if_neg y]
    exact hp
 ·rw[if_neg z,if_neg z]
  exact PairedA h (.cons ⟨rfl,a,rfl,hv⟩ .nil)
theorem get_keys{G:Hp}{kvs:List (List Key×V)}{kv:List (List Int×Vl)}(h:Paired (PrE G) kvs kv)(k:List Int):(k∉kv.map (·.1)/\valV kvs (kI k)=none)\/∃ v a,(k,v)∈kv/\valV kvs (kI k)=some (.ref a)/\VlAt G a v:=by
 induction h with
 |nil=>exact .inl ⟨fun z=>(nomatch z),rfl⟩
 | @cons p e ps es hp _ ih =>
  unfold valV at *
  rw[List.find?_cons]
  by_cases y:e.1=k
  ·have:decide (p.1=kI k)=true:=decide_eq_true (by rw[hp.1,y])
   rw[this]
   obtain⟨_,a,e2,va⟩:=hp
   refine .inr ⟨e.2,a,by rw[<- y];exact List.mem_cons_self ..,?_,va⟩
   show some p.2=_
   rw[e2]
  ·have:decide (p.1=kI k)=false:=decide_eq_false (by rw[hp.1];exact fun w=>y (kI_inj.mp w))
   rw[this]
   rcases ih with⟨h1,h2⟩ |⟨v,a,h1,h2,h3⟩
   ·refine .inl ⟨fun z=>?_,h2⟩
    rcases List.mem_cons.mp z with z | z
    ·exact y z.symm
    ·exact h1 z
   ·exact .inr ⟨v,a,List.mem_cons_of_mem _ h1,h2,h3⟩
theorem nd_le{α:Type}[DecidableEq α]:∀ {L M:List α},L.Nodup->(∀ x∈L,x∈M)->L.length<=M.length
 |[],_,_,_=>Nat.zero_le _
 |f :: L,M,nd,h=>by
  rw[List.nodup_cons]at nd
  have hf:=h f (List.mem_cons_self ..)
  have:=nd_le (M:=M.erase f) nd.2 fun g hg=>(List.mem_erase_of_ne (fun(e:g=f)=>nd.1 (by rw[<- e];exact hg))).mpr (h g (List.mem_cons_of_mem _ hg))
  rw[List.length_erase_of_mem hf]at this
  have p:=List.length_pos_of_mem hf
  rw[List.length_cons]
  omega
noncomputable def alR(ps:List Int):Nat->List (List Int)
 | 0=>[[]]
 |m+1=>ps.flatMap fun q=>(alR ps m).map (q :: ·)
theorem alR_len(ps:List Int):∀ m,(alR ps m).length=ps.length ^ m:=by
 intro m
 induction m with
 |zero=>rfl
 |succ m ih =>
  rw[Nat.pow_succ,Nat.mul_comm,<- ih]
  show(ps.flatMap fun q=>(alR ps m).map (q :: ·)).length=_
  clear ih
  generalize alR ps m=L
  induction ps with
  |nil=>simp
  |cons x ps ih2=>rw[List.flatMap_cons,List.length_append,List.length_map,ih2,List.length_cons,Nat.succ_mul,Nat.add_comm]
theorem alR_mem(ps:List Int):∀ l:List Int,(∀ x∈l,x∈ps)->l∈alR ps l.length:=by
 intro l
 induction l with
 |nil=>intro _;exact List.mem_singleton.mpr rfl
 |cons x l ih=>intro h;exact List.mem_flatMap.mpr ⟨x,h x List.mem_cons_self,List.mem_map.mpr ⟨l,ih fun y hy=>h y (List.mem_cons_of_mem _ hy),rfl⟩⟩
theorem di_few{n i:Nat}{ps ord op:List Int}{S:List Row}{cf:Row->Int}{kv:List (List Int×Vl)}(h:DI S cf (ky op) kv)(hS:∀ r∈S,InR n ps ord i r)(sub:∀ f∈op,f∈ord.take i):kv.length<=ps.length ^ op.length:=by
 have:=nd_le (L:=kv.map (·.1)) (M:=alR ps op.length) h.nd fun x hx=>by
  obtain⟨e,he,rfl⟩:=List.mem_map.mp hx
  have z:=List.mem_filter.mp (h.sum e he).mem
  have ek:=of_decide_eq_true z.2
  have m:=alR_mem ps e.1 fun y hy=>by
   rw[<- ek]at hy
   obtain⟨f,hf,rfl⟩:=List.mem_map.mp hy
   obtain⟨q,hq,e3⟩:=(hS _ z.1).done f (sub f hf)
   rw[e3]
   show q∈ps
   unfold Nar.ch at hq
   split at hq
   ·rename_i hp
    rw[List.mem_singleton.mp hq];exact hp
   ·exact hq
  have len:e.1.length=op.length:=by rw[<- ek];unfold Nar.ky;rw[List.length_map]
  rw[len]at m
  exact m
 rw[List.length_map,alR_len]at this
 exact this
theorem op_ok{n:Nat}{ties:List Tie}{ord:List Int}(pm:ord.Perm (upto n)):OrdN n ord/\OpN n ties ord (openAt (prs ties) ord):=by
 have len:ord.length=n:=by rw[pm.length_eq];unfold upto;rw[List.length_map,List.length_range]
 have o:OrdN n ord:=⟨pm.nodup_iff.mpr (upto_nodup n),len,fun p hp=>by
  have:=pm.mem_iff.mp hp
  unfold upto at this
  obtain⟨i,hi,rfl⟩:=List.mem_map.mp this
  have:=List.mem_range.mp hi
  omega⟩
 refine⟨o,⟨fun i hi f hf=>(List.mem_filter.mp hf).1,fun i hi f hf hx=>?_,fun i hi f hf=>?_,fun i hi=>?_⟩⟩
 ·refine List.mem_filter.mpr ⟨hf,tiedB_iff.mpr ?_⟩
  obtain⟨e,_,_,_,_⟩:=o.at hi
  have md:ord.getD (i+1) 0∈ord.drop (i+1):=by
   rw[e,List.drop_eq_getElem_cons (by omega)]
   exact List.mem_cons_self ..
  obtain⟨x,hx,rfl⟩:=hx
  unfold Nar.bes at hx
  obtain⟨t,ht,hx⟩:=List.mem_flatMap.mp hx
  refine⟨(t.1,t.2.1),List.mem_map.mpr ⟨t,ht,rfl⟩,?_⟩
  by_cases z:t.1=ord.getD (i+1) 0
  ·rw[if_pos z]at hx
   rw[List.mem_singleton.mp hx]
   exact .inr ⟨rfl,by rw[z];exact md⟩
  ·rw[if_neg z]at hx
   by_cases z2:t.2.1=ord.getD (i+1) 0
   ·rw[if_pos z2]at hx
    rw[List.mem_singleton.mp hx]
    exact .inl ⟨rfl,by rw[z2];exact md⟩
   ·rw[if_neg z2]at hx
    cases hx
 ·obtain⟨_,_,_,_,tk⟩:=o.at hi
  obtain⟨h1,h2⟩:=List.mem_filter.mp hf
  rw[tk]at h1
  rcases List.mem_append.mp h1 with h1 | h1
  ·refine .inl (List.mem_filter.mpr ⟨h1,tiedB_iff.mpr ?_⟩)
   obtain⟨x,hx,z⟩:=tiedB_iff.mp h2
   have dd:∀ y,y∈ord.drop (i+1+1)->y∈ord.drop (i+1):=fun y hy=>by
    rw[List.drop_eq_getElem_cons (show i+1<ord.length by omega)]
    exact List.mem_cons_of_mem _ hy
   exact⟨x,hx,z.elim (fun y=>.inl ⟨y.1,dd _ y.2⟩) fun y=>.inr ⟨y.1,dd _ y.2⟩⟩
  ·exact .inr (List.mem_singleton.mp h1)
 ·unfold openAt
  rw[List.filter_eq_nil_iff]
  intro f _ z
  obtain⟨x,_,z⟩:=tiedB_iff.mp z
  rw[List.drop_of_length_le (by omega)]at z
  rcases z with z | z
  ·exact nomatch z.2
  ·exact nomatch z.2
inductive spLnI(vs:List V)(H:Hp)(Q:VK):Prop where
 |mk (b c:Bool) (t q od:Addr) (n:Nat) (ties:List Tie) (ps ord:List Int) (h1:vs=[.ref t,.ref q,.ref od]) (h2:WebAt H t n ties) (h3:(∀ x∈ties,TieOk n x)) (h4:1<=n) (h5:n<=30) (h6:H q=some (sqO b (ps.map V.int))) (h7:H od=some (sqO c (ord.map V.int))) (h8:ord.Perm (upto n)) (h9:PostOk n ps) (h10:(∀ i,i<n->ps.length ^ (openAt (prs ties) ord i).length<=100000)) (h11:∀ (a:Addr) (v:Vl) (H':Hp),VlAt H' a v->Nar.IsSum (RL n ps ord n) (Nar.cst ties) v.1 v.2.1 v.2.2->Same H H'->Q (.ref a) H')
noncomputable def spLn:Sp:=fun vs H Q _=>spLnI vs H Q
end K45
namespace Nar
open L2
noncomputable def blk(S:List Row)(pl:List Int)(k:List Int)(p q:Int):List Row:=(S.filter fun r=>decide (ky pl r=k)).map fun r=>giv r p q
section
variable{n:Nat}{ties:List Tie}{ps ord:List Int}{op:Nat->List Int}{i:Nat}{S:List Row}{kv:List (List Int×Vl)}
theorem blk_sum(o:OrdN n ord)(O:OpN n ties ord op)(ok:∀ x∈ties,0<=x.1/\x.1<n/\0<=x.2.1/\x.2.1<n/\x.1≠x.2.1)(hi:i<n)(hS:∀ r∈S,InR n ps ord i r)(D:DI S (cst ties) (ky (pl op i)) kv){e:List Int×Vl}(he:e∈kv){q:Int}(hq:q∈ch ps (ord.getD i 0)) :
  IsSum (blk S (pl op i) e.1 (ord.getD i 0) q) (cst ties) (e.2.1+inc ties e.2.2.1 (ord.getD i 0) q) (giv e.2.2.1 (ord.getD i 0) q) e.2.2.2 /\
  (∀ x∈blk S (pl op i) e.1 (ord.getD i 0) q,ky (op i) x=ky (op i) (giv e.2.2.1 (ord.getD i 0) q))/\∀ x∈blk S (pl op i) e.1 (ord.getD i 0) q,InR n ps ord (i+1) x:=by
 obtain⟨_,p0,p1,nm,_⟩:=o.at hi
 have s:=D.sum e he
 obtain⟨m1,m2⟩:=List.mem_filter.mp s.mem
 have i0:=hS _ m1
 have k0:=of_decide_eq_true m2
 have fr:∀ x∈S.filter (fun r=>decide (ky (pl op i) r=e.1)),InR n ps ord i x/\ky (pl op i) x=ky (pl op i) e.2.2.1:=fun x hx=>by
  obtain⟨h1,h2⟩:=List.mem_filter.mp hx
  exact⟨hS _ h1,by rw[of_decide_eq_true h2,k0]⟩
 refine⟨?_,fun x hx=>?_,fun x hx=>?_⟩
 ·refine s.giv (fun x hx=>(fr x hx).1.free _ p0 p1 nm) (fun x hx=>?_)
  obtain⟨h1,h2⟩:=fr x hx
  rw[cst_giv p0 (by rw[h1.len];omega) (none_at (h1.free _ p0 p1 nm)) (fun y hy=>⟨(ok y hy).1,(ok y hy).2.2.1,(ok y hy).2.2.2.2⟩)]
  rw[inc_same o O (fun y hy=>⟨(ok y hy).1,(ok y hy).2.1,(ok y hy).2.2.1,(ok y hy).2.2.2.1⟩) hi h1 i0 h2]
 ·obtain⟨y,hy,rfl⟩:=List.mem_map.mp hx
  obtain⟨h1,h2⟩:=fr y hy
  exact ky_next o O hi h1 i0 h2 q
 ·obtain⟨y,hy,rfl⟩:=List.mem_map.mp hx
  exact(fr y hy).1.giv o hi hq
theorem step_put(o:OrdN n ord)(O:OpN n ties ord op)(ok:∀ x∈ties,0<=x.1/\x.1<n/\0<=x.2.1/\x.2.1<n/\x.1≠x.2.1)(hi:i<n)(hS:∀ r∈S,InR n ps ord i r)(D:DI S (cst ties) (ky (pl op i)) kv){e:List Int×Vl}(he:e∈kv){q:Int}(hq:q∈ch ps (ord.getD i 0))
  {T:List Row}{kw:List (List Int×Vl)} (hT:∀ x∈T,InR n ps ord (i+1) x) (E:DI T (cst ties) (ky (op i)) kw) {v:Vl}
  (hv:(ky (op i) (giv e.2.2.1 (ord.getD i 0) q)∉kw.map (·.1)->v=(e.2.1+inc ties e.2.2.1 (ord.getD i 0) q,giv e.2.2.1 (ord.getD i 0) q,e.2.2.2))/\∀ w,(ky (op i) (giv e.2.2.1 (ord.getD i 0) q),w)∈kw->v=jn (e.2.1+inc ties e.2.2.1 (ord.getD i 0) q,giv e.2.2.1 (ord.getD i 0) q,e.2.2.2) w) :
  DI (T++blk S (pl op i) e.1 (ord.getD i 0) q) (cst ties) (ky (op i)) (pt kw (ky (op i) (giv e.2.2.1 (ord.getD i 0) q)) v)/\∀ x∈T++blk S (pl op i) e.1 (ord.getD i 0) q,InR n ps ord (i+1) x:=by
 obtain⟨h1,h2,h3⟩:=blk_sum o O ok hi hS D he hq
 refine⟨E.put (v:=(e.2.1+inc ties e.2.2.1 (ord.getD i 0) q,giv e.2.2.1 (ord.getD i 0) q,e.2.2.2)) h2 h1 (fun x hx y hy=>in_like o (h3 y hy) (hT x hx)) hv,fun x hx=>?_⟩
 rcases List.mem_append.mp hx with hx | hx
 ·exact hT x hx
 ·exact h3 x hx
noncomputable def sofar(S:List Row)(pl:List Int)(kv:List (List Int×Vl))(p:Int)(Q:List Int)(a b:Nat):List Row :=
 ((kv.take a).flatMap fun e=>Q.flatMap fun q=>blk S pl e.1 p q)++(Q.take b).flatMap fun q=>blk S pl ((kv[a]?).map (·.1) |>.getD []) p q
theorem sofar_post{pl:List Int}{p:Int}{Q:List Int}{a b:Nat}(ha:a<kv.length)(hb:b<Q.length):sofar S pl kv p Q a (b+1)=sofar S pl kv p Q a b++blk S pl kv[a].1 p Q[b]:=by
 unfold sofar
 rw[List.take_succ_eq_append_getElem hb,List.flatMap_append,List.append_assoc,List.flatMap_singleton,List.getElem?_eq_getElem ha]
 rfl
theorem sofar_part{pl:List Int}{p:Int}{Q:List Int}{a:Nat}(ha:a<kv.length):sofar S pl kv p Q a Q.length=sofar S pl kv p Q (a+1) 0:=by
 unfold sofar
 rw[List.take_length,List.take_zero,List.flatMap_nil,List.append_nil,List.take_succ_eq_append_getElem ha,List.flatMap_append,List.flatMap_singleton,List.getElem?_eq_getElem ha]
 rfl
theorem sofar_all(o:OrdN n ord)(D:DI S (cst ties) (ky (pl op i)) kv)(sp:S.Perm (RL n ps ord i)):(sofar S (pl op i) kv (ord.getD i 0) (ch ps (ord.getD i 0)) kv.length 0).Perm (RL n ps ord (i+1)):=by
 unfold sofar
 rw[List.take_length,List.take_zero,List.flatMap_nil,List.append_nil]
 have:=step_perm (S:=S) (ky:=ky (pl op i)) D.nd D.cov (ord.getD i 0) (ch ps (ord.getD i 0))
 rw[List.flatMap_map]at this
 exact List.Perm.trans this (flat_perm sp)
end
open L2
theorem at_none(n:Nat)(p:Int):atR (List.replicate n none) p=none:=by
 unfold atR
 rw[List.getElem?_replicate]
 by_cases h:p.toNat<n
 ·rw[if_pos h];rfl
 ·rw[if_neg h];rfl
theorem cst_none(n:Nat):∀ ties:List Tie,cst ties (List.replicate n none)=0
 |[]=>rfl
 |x :: ties=>by
  unfold cst
  rw[List.map_cons,List.sum_cons]
  have e:dfc (List.replicate n none) x=0:=by
   unfold dfc
   rw[at_none]
  rw[e,Int.zero_add]
  exact cst_none n ties
theorem di_zero(n:Nat)(ties:List Tie)(ps ord:List Int)(op:Nat->List Int):DI (RL n ps ord 0) (cst ties) (ky (pl op 0)) [([],(0,List.replicate n none,1))]:=by
 have k:∀ r:Row,ky (pl op 0) r=[]:=fun r=>rfl
 have f:(RL n ps ord 0).filter (fun r=>decide (ky (pl op 0) r=[]))=[List.replicate n none]:=by
  show List.filter _ [List.replicate n none]=_
  rw[List.filter_cons,if_pos (by rw[k];exact decide_eq_true rfl),List.filter_nil]
 refine⟨by simp,fun r _=>by rw[k];exact List.mem_singleton.mpr rfl,fun e he=>?_⟩
 rw[List.mem_singleton.mp he]
 show IsSum (List.filter (fun r=>decide (ky (pl op 0) r=[])) _) _ _ _ _
 rw[f]
 refine⟨List.mem_singleton.mpr rfl,cst_none n ties,fun x hx=>?_,fun x hx _=>?_,?_,fun x hx=>?_⟩
 ·rw[List.mem_singleton.mp hx,cst_none];exact Int.le_refl _
 ·rw[List.mem_singleton.mp hx];exact lexO_irr _
 ·rw[List.filter_cons,if_pos (decide_eq_true (cst_none n ties))];rfl
 ·rw[List.mem_singleton.mp hx];exact rfl
theorem rl_ne{n:Nat}{ps ord:List Int}(h:ps≠[]):∀ i,∃ r,r∈RL n ps ord i
 | 0=>⟨_,List.mem_singleton.mpr rfl⟩
 |i+1=>by
  obtain⟨r,hr⟩:=rl_ne (n:=n) (ord:=ord) h i
  have:∃ q,q∈ch ps (ord.getD i 0):=by
   unfold ch
   by_cases z:ord.getD i 0∈ps
   ·rw[if_pos z];exact⟨_,List.mem_singleton.mpr rfl⟩
   ·rw[if_neg z]
    cases ps with
    |nil=>exact absurd rfl h
    |cons a l=>exact⟨a,List.mem_cons_self ..⟩
  obtain⟨q,hq⟩:=this
  exact⟨giv r (ord.getD i 0) q,List.mem_flatMap.mpr ⟨r,hr,List.mem_map.mpr ⟨q,hq,rfl⟩⟩⟩
end Nar
namespace K45
open PySem L2 PyProof.Rows
open Nar (Row Vl RL ch ky pl DI InR OrdN OpN)
theorem inV_int{pc:Int}{ps:List Int}:inV (.int pc) (ps.map V.int)=true↔pc∈ps:=by
 unfold inV
 rw[List.any_map,List.any_eq_true]
 constructor
 ·rintro⟨x,hx,e⟩
  have e:eqV (.int x) (.int pc)=true:=e
  have:x=pc:=by simpa[eqV]using e
  exact this▸hx
 ·intro h
  exact⟨pc,h,by show eqV (.int pc) (.int pc)=true;simp[eqV]⟩
theorem choosePost{b:Bool}{q:Addr}{H:Hp}{ps:List Int}{pc:Int}{σ:L2.St}{Q:VK}(gq:H q=some (sqO b (ps.map V.int)))(e1:σ[1]?=some (some (.ref q)))(e5:σ[5]?=some (some (.int pc)))(h:∀ (cl:Addr) (bb:Bool) (G:Hp),Same H G->G cl=some (sqO bb ((Nar.ch ps pc).map V.int))->Q (.ref cl) G) :
  rInQ b false (.int pc) (.ref q) H fun x H'=>ExB x fun k=>(fun c H1=>if c=true then tLst (tCons (tVar 5) tNil) σ H1 Q else tVar 1 σ H1 Q) k H':=by
 refine⟨q,_,rfl,gq,rfl,by rw[List.all_map];exact List.all_eq_true.mpr fun _ _=>rfl,_,rfl,?_⟩
 show if inV (.int pc) (ps.map V.int)=true then _ else _
 by_cases z:pc∈ps
 ·rw[if_pos (inV_int.mpr z)]
  refine⟨_,e5,(by show 1<=sizeLine;decide),fun l hl=>h l false _ (Same.new hl) ?_⟩
  rw[upd_same,Nar.ch,if_pos z]
  rfl
 ·rw[if_neg (fun y=>z (inV_int.mp y))]
  refine⟨_,e1,h q b _ (Same.refl _) ?_⟩
  rw[Nar.ch,if_neg z]
  exact gq
theorem rep_both{l:Addr}{n:Nat}{H:Hp}{Q:VK}(hl:H l=some (.tup [V.non]))(h:∀ (r:Addr) (G:Hp),G r=some (.tup (((List.replicate n none:Row)).map oI))->Same H G->Q (.ref r) G):((n:Int)=1->Q (.ref l) H)/\∀ p,H p=none->Q (.ref p) (upd H p (.tup (List.replicate ((n:Int)).toNat [V.non]).flatten)):=by
 constructor
 ·intro e
  obtain rfl:n=1:=by omega
  exact h l H hl (Same.refl _)
 ·intro p hp
  refine h p _ ?_ (Same.new hp)
  rw[upd_same,show((n:Int)).toNat=n by omega]
  congr 2
  clear h
  induction n with
  |zero=>rfl
  |succ n ih=>rw[List.replicate_succ,List.flatten_cons,ih,List.replicate_succ];rfl
theorem rep_row{l:Addr}{n:Nat}{H:Hp}{Q:VK}(n1:1<=n)(n30:n<=30)(hl:H l=some (.tup [V.non]))(h:∀ (r:Addr) (G:Hp),G r=some (.tup (((List.replicate n none:Row)).map oI))->Same H G->Q (.ref r) G):rRepT (.ref l) (.int n) H Q :=
 ⟨l,n,_,rfl,rfl,hl,List.cons_ne_nil _ _,by omega,by omega,(by show 1 * ((n:Int)).toNat<=16777216;omega),(rep_both hl h).1,(rep_both hl h).2⟩
theorem pe_unit{X:Cx}{pos:Pos}:PE X (.Tuple [] 0 pos) (tTup tNil):=pe_tup pa_nil
theorem pe_dispU{X:Cx}{v:Expr}{tv:TE}{p1 pos:Pos}(hv:PE X v tv)(hu:X.A.units<cLine):PE X (.Dict [some (.Tuple [] 0 p1)] [v] pos) (tDispT (tTup tNil) tv):=@pe_dispT X (.Tuple [] 0 p1) v _ _ pos hu pe_unit hv
theorem pss_dispU{X:Cx}{i:Nat}{x:Str}{v:Expr}{tv:TE}{rest:List Stmt}{u:TS}{p1 p2 p3 p4:Pos}(hN:X.N.Nodup)(hi:X.N[i]?=some x)(hx:Loc X.env.scope x)(hv:PE X v tv)(hu:X.A.units<cLine)(hs:swapsWith (.Dict [some (.Tuple [] 0 p1)] [v] p2) (some (.Name x p3)) p4.line X.env=pure false)(hf:X.fn x=true\/X.env.scope.names.lookup x=some .local)(h2:PSs X rest u):PSs X (.Assign [.Name x p3] (.Dict [some (.Tuple [] 0 p1)] [v] p2) p4 :: rest) (tSeq (tAsg (tDispT (tTup tNil) tv) (gName i)) u):=by
 have h1:=@pe_dispU X v tv p1 p2 hv hu
 intro pins s σ H D I h
 exact pss_cons (fun pins s σ H D I h=>ps_set hN hi hx h1 hs hf pins s σ H D I h) h2 pins s σ H D I h
theorem key_uq{kw:List (List Int×Vl)}{k:List Int}{a b:Vl}(nd:(kw.map (·.1)).Nodup)(ha:(k,a)∈kw)(hb:(k,b)∈kw):a=b:=by
 obtain⟨i,hi,e1⟩:=List.getElem_of_mem ha
 obtain⟨j,hj,e2⟩:=List.getElem_of_mem hb
 have e:i=j:=(List.getElem_inj (h₀:=by rw[List.length_map];exact hi) (h₁:=by rw[List.length_map];exact hj) nd).mp (by rw[List.getElem_map,List.getElem_map,e1,e2])
 subst e
 rw[e1]at e2
 exact congrArg (·.2) e2
theorem bes_rgN{n:Nat}{ties:List Tie}{p:Int}{x:Int×Int}(ok:∀ x∈ties,0<=x.1/\x.1<n/\0<=x.2.1/\x.2.1<n/\x.1≠x.2.1)(hx:x∈Nar.bes ties p):0<=x.1/\x.1<n:=by
 unfold Nar.bes at hx
 obtain⟨t,ht,hx⟩:=List.mem_flatMap.mp hx
 obtain⟨t1,t2,t3,t4,_⟩:=ok t ht
 by_cases z:t.1=p
 ·rw[if_pos z]at hx
  rw[List.mem_singleton.mp hx]
  exact⟨t3,t4⟩
 ·rw[if_neg z]at hx
  by_cases z2:t.2.1=p
  ·rw[if_pos z2]at hx
   rw[List.mem_singleton.mp hx]
   exact⟨t1,t2⟩
  ·rw[if_neg z2]at hx
   cases hx
section
variable{P:Program}{w:World}{K:PySem.W.Frag}{mg:Str->Option Value}{base:Heap}
noncomputable abbrev nLn:List Str:=["web","posts","order","beside","found","place","places","choices","longer","weight","owners","many","post","row","one","key"]
theorem scLn:FnScope nLn ["web","posts","order"] (defScope sLeastNarrow):=⟨rfl,rfl,rfl,by decide +kernel,rfl,by decide +kernel,by decide +kernel⟩
theorem csLn1:CompScope ["other","row"] [none,some 13] nLn (defScope sLeastNarrow) (scO [(".0",.local),("other",.local),("row",.free)]):=⟨rfl,by decide +kernel,by decide +kernel,by decide +kernel,rfl,capB_ok (by decide +kernel)⟩
theorem ndLn1:(["other","row"]:List Str).Nodup:=by decide +kernel
theorem ok_ln{f fB fO fG fP fJ:Addr}{fd dB dO dG dP dJ:FuncData}(F:Fun K "least_narrow" "least_narrow" sLeastNarrow f fd)(T:Txt mg)(T2:Txt2 mg)(GB:CalF P w K mg base 1 "beside_each" ["web"] spBes fB dB)(GO:CalF P w K mg base 1 "open_behind" ["web","order"] spOB fO dO)(GG:CalF P w K mg base 1 "given" ["owners","place","post"] spGi fG dG)(GP:CalF P w K mg base 1 "parted_from" ["ties","owners","post"] spPf fP dP)(GJ:CalF P w K mg base 1 "joined" ["one","other"] spJn fJ dJ):FnOk P w K mg base CX0 2 f fd ["web","posts","order"] spLn:=by
 refine F.ok scLn (fun vs H Q E h=>?_) (fun cdv A outer s H vs Q E hr h=>?_)
 ·obtain⟨b,c,t,q,od,n,ties,ps,ord,rfl,_⟩:=h
  rfl
 ·obtain⟨b,c,t,q,od,n,ties,ps,ord,rfl,W,ok,n1,n30,gq,gO,pm,po,big,fin⟩:=h
  have hu:_+1<cLine:=Nat.lt_of_le_of_lt (Nat.add_le_add_left (show 1<=64 by decide) _) hr.units
  have hu0:_<cLine:=hr.units0
  have hr1:Room 1 _:=hr
  refine⟨_,(pss_cons (ps_set (i:=3) scLn.nd rfl (Or.inl rfl) (pe_call GB.ok hr1 rfl GB.mg GB.kp GB.bd .nil pass0 (@pa_nam _ _ _ _ _ _ (pv 0) pa_nil)))
   (@pss_dispU _ 4 _ _ _ _ _ _ _ _ _ scLn.nd rfl (Or.inl rfl) (@pe_tup _ _ _ _ _ (@pa_cst _ _ _ _ _ _ _ pe_int (@pa_bin _ _ _ _ _ _ _ _ (pe_op op_repT (@pe_tup _ _ _ _ _ (@pa_cst _ _ _ _ _ _ _ pe_non pa_nil)) (@pe_ix _ _ _ _ _ _ _ ix_tupH (pv 0) pe_int (fun _ _=>rfl))) (@pa_cst _ _ _ _ _ _ _ pe_int pa_nil)))) hu0 rfl (Or.inl rfl)
   (pss_cons (ps_for PassesOwn.never rfl (pi_zip c false (by rfl) T2.zip (@pa_nam _ _ _ _ _ _ (pv 2) (@pa_call _ _ _ _ _ _ _ _ (pe_call GO.ok hr1 rfl GO.mg GO.kp GO.bd .nil pass0 (@pa_nam _ _ _ _ _ _ (pv 0) (@pa_nam _ _ _ _ _ _ (pv 2) pa_nil))) pa_nil))) (pg_tup (n:=2) rfl (pgs_cons (pg_name (i:=5) scLn.nd rfl (Or.inl rfl)) (pgs_cons (pg_name (i:=6) scLn.nd rfl (Or.inl rfl)) pgs_nil)))
   (pss_cons (ps_set (i:=7) scLn.nd rfl (Or.inl rfl) (pe_ifExp (pt_cmpR (op_inQ b) (pv 5) (pv 1) rfl) (@pe_lst _ _ _ _ (@pa_nam _ _ _ _ _ _ (pv 5) pa_nil)) (pv 1)))
   (pss_cons (ps_set (i:=8) scLn.nd rfl (Or.inl rfl) pe_dnewT)
   (pss_cons (ps_for PassesOwn.never rfl (pi_valsT (pv 4)) (pg_tup (n:=3) rfl (pgs_cons (pg_name (i:=9) scLn.nd rfl (Or.inl rfl)) (pgs_cons (pg_name (i:=10) scLn.nd rfl (Or.inl rfl)) (pgs_cons (pg_name (i:=11) scLn.nd rfl (Or.inl rfl)) pgs_nil))))
   (pss_one (ps_for PassesOwn.never rfl (pi_any (pv 7)) (pg_name (i:=12) scLn.nd rfl (Or.inl rfl))
   (pss_cons (ps_set (i:=13) scLn.nd rfl (Or.inr rfl) (pe_call GG.ok hr1 rfl GG.mg GG.kp GG.bd .nil pass0 (@pa_nam _ _ _ _ _ _ (pv 10) (@pa_nam _ _ _ _ _ _ (pv 5) (@pa_nam _ _ _ _ _ _ (pv 12) pa_nil)))))
   (pss_cons (ps_set (i:=14) scLn.nd rfl (Or.inl rfl) (@pe_tup _ _ _ _ _ (@pa_bin _ _ _ _ _ _ _ _ (pe_op op_add (pv 9) (pe_call GP.ok hr1 rfl GP.mg GP.kp GP.bd .nil pass0 (@pa_sub _ _ _ _ _ _ _ (@pe_ix _ _ _ _ _ _ _ ix_listH (pv 3) (pv 5) (fun _ _=>rfl)) (@pa_nam _ _ _ _ _ _ (pv 10) (@pa_nam _ _ _ _ _ _ (pv 12) pa_nil))))) (@pa_nam _ _ _ _ _ _ (pv 13) (@pa_nam _ _ _ _ _ _ (pv 11) pa_nil)))))
   (pss_cons (ps_set (i:=15) scLn.nd rfl (Or.inl rfl) (pe_callTy call_tupleH (by rfl) T.tuple boot_tuple (@pa_comp _ _ _ _ _ _ _ _ (pe_comp rfl csLn1 (pi_list (pv 6)) (fun C s H fp=>(pg_name (i:=0) ndLn1 rfl (Or.inl rfl))) (fun C s H fp=>pf_nil) (fun C s H fp=>(@pe_ix _ _ _ _ _ _ _ ix_tupH (pv 1) (pv 0) (fun _ _=>rfl)))) pa_nil)))
   (pss_one (ps_dput hu (pv 8) (pv 15) (pe_ifExp (pt_cmp (pc_din hu (pv 15) (pv 8))) (pe_call GJ.ok hr1 rfl GJ.mg GJ.kp GJ.bd .nil pass0 (@pa_nam _ _ _ _ _ _ (pv 14) (@pa_sub _ _ _ _ _ _ _ (pe_dget hu (pv 8) (pv 15) (fun _ _=>rfl)) pa_nil))) (pv 14)) rfl))))))))
   (pss_one (ps_set (i:=4) scLn.nd rfl (Or.inl rfl) (pv 8)))))))
   (pss_one (ps_ret (pe_dget hu (pv 4) (@pe_tup _ _ _ _ _ pa_nil) (fun _ _=>rfl))))))),?_⟩
  obtain⟨oN,oP⟩:=op_ok (ties:=ties) pm
  refine⟨_,rfl,t,n,ties,rfl,W,ok,by omega,fun bs as0 H1 gb al BA s1=>?_⟩
  refine fun d hd=>⟨(by show 0<=sizeLine;decide),fun k0 hk0=>?_⟩
  have s2:=s1.trans ((Same.new (o:=.dT []) hd).trans (Same.new (o:=.tup []) hk0))
  have gd2:(upd (upd H1 d (.dT [])) k0 (.tup [])) d=some (.dT []):=Same.new (o:=.tup []) hk0 _ _ upd_same
  have gk2:(upd (upd H1 d (.dT [])) k0 (.tup [])) k0=some (.tup []):=upd_same
  have gb2:=(Same.new (o:=.dT []) hd).trans (Same.new (o:=.tup []) hk0) _ _ gb
  have BA2:=BA
  obtain⟨⟨ts,as,w1,w2,w3⟩,tl⟩:=id W
  refine⟨(by show 1<=sizeLine;decide),fun k1 hk1=>?_⟩
  have s3:=s2.trans (Same.new (o:=.tup [V.non]) hk1)
  refine⟨_,rfl,t,_,_,_,rfl,rfl,s3 _ _ w1,at0,rep_row n1 n30 upd_same fun r0 G0 gr0 sr0=>?_⟩
  refine⟨(by show 3<=sizeLine;decide),fun v0 hv0=>?_⟩
  have s4:Same (upd (upd H1 d (.dT [])) k0 (.tup [])) (upd G0 v0 (.tup [.int 0,.ref r0,.int 1])):=(Same.new (o:=.tup [V.non]) hk1).trans (sr0.trans (Same.new hv0))
  have d0:H d=none:=s1.free hd
  refine⟨_,DPut.t (k:=[]) (s4 _ _ gd2) (s4 _ _ gk2) (by rw[sizeLine_eq];decide),?_⟩
  have s5:Same H (upd (upd G0 v0 (.tup [.int 0,.ref r0,.int 1])) d (.dT (putK [] [] (.ref v0)))):=same_put (s2.trans s4) d0
  have s5':Same H1 (upd (upd G0 v0 (.tup [.int 0,.ref r0,.int 1])) d (.dT (putK [] [] (.ref v0)))):=same_put (((Same.new (o:=.dT []) hd).trans (Same.new (o:=.tup []) hk0)).trans s4) hd
  have gv0:(upd (upd G0 v0 (.tup [.int 0,.ref r0,.int 1])) d (.dT (putK [] [] (.ref v0)))) v0=some (.tup [.int 0,.ref r0,.int 1]):=by
   rw[upd_ne (fun z=>by have:=s4 _ _ gd2;rw[<- z]at this;rw[upd_same]at this;cases this)]
   exact upd_same
  have gr1:(upd (upd G0 v0 (.tup [.int 0,.ref r0,.int 1])) d (.dT (putK [] [] (.ref v0)))) r0=some (.tup (((List.replicate n none:Row)).map oI)):=by
   have e1:=(Same.new (o:=.tup [.int 0,.ref r0,.int 1]) hv0) _ _ gr0
   rw[upd_ne (fun z=>by have:=s4 _ _ gd2;rw[<- z,e1]at this;cases this)]
   exact e1
  have gd5:(upd (upd G0 v0 (.tup [.int 0,.ref r0,.int 1])) d (.dT (putK [] [] (.ref v0)))) d=some (.dT (putK [] [] (.ref v0))):=upd_same
  generalize (upd (upd G0 v0 (.tup [.int 0,.ref r0,.int 1])) d (.dT (putK [] [] (.ref v0))))=G1 at s5 s5' gv0 gd5 gr1
  have gO1:SIs c G1 od (ord.map V.int):=by cases c <;> exact s5 _ _ gO
  refine⟨_,rfl,_,rfl,_,rfl,c,t,od,n,ties,ord,rfl,n30,W.same s5,ok,gO1,pm,fun ol ls H2 gl pls s6=>⟨od,ol,rfl,⟨_,(gO1.same s6).sqB⟩,⟨_,(show SIs false H2 ol (ls.map V.ref)from gl).sqB⟩,?_⟩⟩
  have ll:ls.length=n:=by rw[pls.length,List.length_range]
  have ol':ord.length=n:=oN.len
  have mn:min (ord.map V.int).length (ls.map V.ref).length=n:=by rw[List.length_map,List.length_map,ol',ll];omega
  have gd6:=s6 _ _ gd5
  obtain⟨B,sB,sB1,Bd,glB,plB⟩:∃ B:Hp,Same B H2/\Same H1 B/\B d=none/\B ol=some (.lst (ls.map V.ref))/\Paired (fun a (i:Nat)=>B a=some (.lst ((openAt (prs ties) ord i).map V.int))) ls (List.range n) :=
   ⟨wo d H2,wo_same,fun b o e=>wo_some (fun z=>by rw[z,hd]at e;cases e) ((s5'.trans s6) _ _ e),if_pos rfl,wo_some (fun z=>by rw[z,gd6]at gl;cases gl) gl,Paired.mapP pls fun a i e=>wo_some (fun z=>by rw[z,gd6]at e;cases e) e⟩
  have sHB:=s1.trans sB1
  have gOB:SIs c B od (ord.map V.int):=by cases c <;> exact sHB _ _ gO
  refine for_zip (b1:=c) (b2:=false) (xs:=ord.map V.int) (ys:=ls.map V.ref) (fun i σ G=>∃ (fa:Addr) (kvs:List (List Key×V)) (kv:List (List Int×Vl)) (S:List Row) (v5 v6 v7 v8 v9 v10 v11 v12 v13 v14 v15:Option V),σ=[some (.ref t),some (.ref q),some (.ref od),some (.ref bs),some (.ref fa),v5,v6,v7,v8,v9,v10,v11,v12,v13,v14,v15]/\Same B G/\B fa=none/\G fa=some (.dT kvs)/\Paired (PrE G) kvs kv/\S.Perm (RL n ps ord i)/\DI S (Nar.cst ties) (ky (pl (openAt (prs ties) ord) i)) kv) ?_ ?_ ?_ ?_
  ·refine⟨d,_,[([],(0,List.replicate n none,1))],RL n ps ord 0,none,none,none,none,none,none,none,none,none,none,none,rfl,sB,Bd,gd6,?_,List.Perm.refl _,Nar.di_zero n ties ps ord _⟩
   exact .cons ⟨rfl,v0,rfl,r0,s6 _ _ gv0,s6 _ _ gr1⟩ .nil
  ·rintro i σ G _ ⟨fa,kvs,kv,S,v5,v6,v7,v8,v9,v10,v11,v12,v13,v14,v15,rfl,sG,_⟩
   exact⟨(gOB.same sG).sqB,(show SIs false G ol (ls.map V.ref)from sG _ _ glB).sqB⟩
  ·rintro i x y σ G T' hx hy ⟨fa,kvs,kv,S,v5,v6,v7,v8,v9,v10,v11,v12,v13,v14,v15,rfl,sG,fN,gf,pk,sp,D⟩ hT
   have hi:i<n:=by
    have:=(List.getElem?_eq_some_iff.mp hx).1
    rw[List.length_map,ol']at this
    exact this
   have iL:i<ls.length:=by rw[ll];exact hi
   obtain⟨ep,p0,p1,nm,tk⟩:=oN.at hi
   have ex:x = .int (ord.getD i 0):=by
    rw[List.getElem?_map,List.getElem?_eq_getElem (by rw[ol'];exact hi)]at hx
    rw[ep]
    exact(Option.some.inj hx).symm
   have ey:y = .ref ls[i]:=by
    rw[List.getElem?_map,List.getElem?_eq_getElem iL]at hy
    exact(Option.some.inj hy).symm
   subst ex ey
   have sT:=Same.new (o:=.tup [.int (ord.getD i 0),.ref ls[i]]) hT
   refine⟨T',_,rfl,SqT.of upd_same,rfl,_,_,rfl,_,_,rfl,rfl,_,rfl,_,rfl,?_⟩
   have okT:∀ x∈ties,0<=x.1/\x.1<n/\0<=x.2.1/\x.2.1<n/\x.1≠x.2.1:=fun x hx=>by
    obtain⟨a1,a2,a3,_⟩:=ok x hx
    omega
   have hS:∀ r∈S,InR n ps ord i r:=fun r hr=>Nar.rl_in oN (by omega) r (sp.mem_iff.mp hr)
   have pO:B ls[i]=some (.lst ((openAt (prs ties) ord i).map V.int)):=by
    have:=Paired.at plB i iL (by rw[List.length_range];exact hi)
    rw[List.getElem_range]at this
    exact this
   have blkS:∀ {e:List Int×Vl} (_:e∈kv) {q:Int} (_:q∈ch ps (ord.getD i 0)),_:=fun {e} he {q} hq=>Nar.blk_sum oN oP okT hi hS D he hq
   have stepP:∀ {e:List Int×Vl} (_:e∈kv) {q:Int} (_:q∈ch ps (ord.getD i 0)) {T:List Row}{kw:List (List Int×Vl)} (_:∀ x∈T,InR n ps ord (i+1) x) (_:DI T (Nar.cst ties) (ky (openAt (prs ties) ord i)) kw) {v:Vl},_:=fun {e} he {q} hq {T}{kw} hT E {v}=>Nar.step_put (v:=v) oN oP okT hi hS D he hq hT E
   have all:=Nar.sofar_all oN D sp
   have bigN:=big i hi
   have opL:(openAt (prs ties) ord i).length<=1000:=by
    refine Nat.le_trans (List.length_filter_le _ _) ?_
    rw[List.length_take,ol']
    omega
   have inO:=oP.sub i hi
   generalize ep':ord.getD i 0=pc at *
   obtain⟨pn,rfl⟩:=Int.eq_ofNat_of_zero_le p0
   have pn1:pn<n:=by omega
   refine choosePost (sT _ _ (sG _ _ (sHB _ _ gq))) rfl rfl fun cl bb G2 s7 gc=>?_
   have s72:=sT.trans s7
   refine fun ld hl=>⟨_,rfl,fa,kvs,rfl,(Same.new (o:=.dT []) hl) _ _ (s72 _ _ gf),fun ob=>?_⟩
   have gf2:=s72 _ _ gf
   have nlf:ld≠fa:=fun z=>by rw[z,gf2]at hl;cases hl
   obtain⟨C,sC,sBC,Cl,Cf,Cc,Ck⟩:∃ C:Hp,Same C (upd (upd G2 ld (.dT [])) fa (.frz ob (.dT kvs)))/\Same B C/\C ld=none/\C fa=some (.frz ob (.dT kvs))/\C cl=some (sqO bb ((ch ps pn).map V.int))/\Paired (PrE C) kvs kv:=by
    refine⟨upd G2 fa (.frz ob (.dT kvs)),fun b o e=>?_,same_put (sG.trans s72) fN,by rw[upd_ne nlf];exact hl,upd_same,?_,?_⟩
    ·by_cases z:b=fa
     ·rw[z,upd_same]at e ⊢
      exact e
     ·rw[upd_ne z]at e ⊢
      exact Same.new hl _ _ e
    ·rw[upd_ne (fun z=>by rw[z,gf2]at gc;cases bb <;> cases gc)]
     exact gc
    ·refine Paired.mapP pk fun p e h=>h.to fun a xs ea=>?_
     rw[upd_ne (fun z=>by rw[z,gf]at ea;cases ea)]
     exact s72 _ _ ea
   have g0:(upd (upd G2 ld (.dT [])) fa (.frz ob (.dT kvs))) ld=some (.dT []):=by rw[upd_ne nlf];exact upd_same
   generalize (upd (upd G2 ld (.dT [])) fa (.frz ob (.dT kvs)))=G3 at sC g0 ⊢
   have kvl:=Ck.length
   refine for_vt (d:=fa) (o:=ob) (kvs:=kvs) (fun a σ G=>∃ (kws:List (List Key×V)) (kw:List (List Int×Vl)) (v9 v10 v11 v12 v13 v14 v15:Option V),σ=[some (.ref t),some (.ref q),some (.ref od),some (.ref bs),some (.ref fa),some (.int pn),some (.ref ls[i]),some (.ref cl),some (.ref ld),v9,v10,v11,v12,v13,v14,v15]/\Same C G/\G ld=some (.dT kws)/\Paired (PrE G) kws kw /\
     DI (Nar.sofar S (pl (openAt (prs ties) ord) i) kv pn (ch ps pn) a 0) (Nar.cst ties) (ky (openAt (prs ties) ord i)) kw/\∀ x∈Nar.sofar S (pl (openAt (prs ties) ord) i) kv pn (ch ps pn) a 0,InR n ps ord (i+1) x) ?_ ?_ ?_ ?_
   ·refine⟨[],[],_,_,_,_,_,_,_,rfl,sC,g0,.nil,⟨by simp,fun r hr=>?_,fun e he=>(nomatch he)⟩,fun x hx=>?_⟩
    ·exact absurd hr (by unfold Nar.sofar;rw[List.take_zero,List.take_zero];simp)
    ·exact absurd hx (by unfold Nar.sofar;rw[List.take_zero,List.take_zero];simp)
   ·rintro a σ G _ ⟨kws,kw,v9,v10,v11,v12,v13,v14,v15,rfl,sG',_⟩
    exact sG' _ _ Cf
   ·rintro a kve σ G ha ⟨kws,kw,v9,v10,v11,v12,v13,v14,v15,rfl,sG',gL,pw,E,hI⟩
    obtain⟨al',ea⟩:=List.getElem?_eq_some_iff.mp ha
    have aL:a<kv.length:=by omega
    obtain⟨_,av,e2,r,gv,gr⟩:=Paired.at Ck a al' aL
    rw[ea]at e2
    have he:kv[a]∈kv:=List.getElem_mem aL
    have rI:InR n ps ord i kv[a].2.2.1:=hS _ (List.mem_filter.mp (D.sum _ he).mem).1
    have sfP:∀ {b:Nat} (hb:b <(ch ps pn).length),Nar.sofar S (pl (openAt (prs ties) ord) i) kv pn (ch ps pn) a (b+1)=Nar.sofar S (pl (openAt (prs ties) ord) i) kv pn (ch ps pn) a b++Nar.blk S (pl (openAt (prs ties) ord) i) kv[a].1 pn (ch ps pn)[b]:=fun hb=>Nar.sofar_post aL hb
    have sfE:=Nar.sofar_part (S:=S) (kv:=kv) (pl:=pl (openAt (prs ties) ord) i) (p:=pn) (Q:=ch ps pn) aL
    have bl:=fun {q:Int}=>@blkS _ he q
    have stp:=fun {q:Int} hq {T:List Row}{kw:List (List Int×Vl)}=>@stepP _ he q hq T kw
    clear blkS stepP
    generalize kv[a]=e at *
    rw[e2]
    refine⟨av,_,rfl,SqT.of (sG' _ _ gv),rfl,_,_,rfl,_,_,rfl,_,_,rfl,rfl,?_⟩
    refine⟨_,rfl,cl,bb,rfl,⟨_,sqB_of (sG' _ _ Cc)⟩,?_⟩
    refine for_seq (K:=K) (a:=cl) (xs:=(ch ps pn).map V.int) bb (fun b σ G=>∃ (kws:List (List Key×V)) (kw:List (List Int×Vl)) (v12 v13 v14 v15:Option V),σ=[some (.ref t),some (.ref q),some (.ref od),some (.ref bs),some (.ref fa),some (.int pn),some (.ref ls[i]),some (.ref cl),some (.ref ld),some (.int e.2.1),some (.ref r),some (.int e.2.2.2),v12,v13,v14,v15]/\Same C G/\G ld=some (.dT kws)/\Paired (PrE G) kws kw /\
     DI (Nar.sofar S (pl (openAt (prs ties) ord) i) kv pn (ch ps pn) a b) (Nar.cst ties) (ky (openAt (prs ties) ord i)) kw/\∀ x∈Nar.sofar S (pl (openAt (prs ties) ord) i) kv pn (ch ps pn) a b,InR n ps ord (i+1) x) ⟨kws,kw,_,_,_,_,rfl,sG',gL,pw,E,hI⟩ ?_ ?_ ?_
    ·rintro b σ G _ ⟨kws,kw,v12,v13,v14,v15,rfl,sG',_⟩
     exact sqB_of (sG' _ _ Cc)
    ·clear E hI pw gL sG'
     rintro b x σ G hx ⟨kws,kw,v12,v13,v14,v15,rfl,sG',gL,pw,E,hI⟩
     obtain⟨bl',ex⟩:=List.getElem?_eq_some_iff.mp hx
     rw[List.length_map]at bl'
     rw[List.getElem_map]at ex
     subst ex
     have hq:(ch ps pn)[b]∈ch ps pn:=List.getElem_mem bl'
     have kwl:kws.length<sizeLine:=by
      rw[pw.length,sizeLine_eq]
      exact Nat.lt_of_le_of_lt (Nat.le_trans (di_few E hI (oP.sub i hi)) bigN) (by decide)
     rw[sfP bl']
     generalize Nar.sofar S (pl (openAt (prs ties) ord) i) kv pn (ch ps pn) a b=T0 at E hI ⊢
     generalize (ch ps pn)[b]=z at *
     obtain⟨b1,b2,b3⟩:=bl hq
     have gI:InR n ps ord (i+1) (Nar.giv e.2.2.1 pn z):=b3 _ b1.mem
     have stp:=@stp z hq T0 kw hI E
     clear bl
     refine⟨_,rfl,_,rfl,_,rfl,r,e.2.2.1,pn,z,rfl,sG' _ _ gr,by rw[rI.len];exact pn1,by rw[rI.len];omega,fun u G4 gu s8=>?_⟩
     have sG4:=sG'.trans s8
     have aP:(as0.map V.ref)[pn]?=some (V.ref (as0[pn]'(by rw[al];exact pn1))):=by rw[List.getElem?_map,List.getElem?_eq_getElem (by rw[al];exact pn1)];rfl
     obtain⟨cs,gcs,pcs⟩:=BA pn (by rw[al];exact pn1)
     have sH4:Same H1 G4:=sB1.trans (sBC.trans sG4)
     refine⟨_,rfl,_,rfl,_,rfl,bs,_,_,_,rfl,rfl,sH4 _ _ gb,atI_nat (j:=pn) aP,_,rfl,_,rfl,as0[pn]'(by rw[al];exact pn1),r,cs,_,e.2.2.1,z,rfl,sH4 _ _ gcs,Paired.mapP pcs fun _ _ h=>sH4 _ _ h,sG4 _ _ gr,fun x hx=>?_,?_,fun G5 s9=>?_⟩
     ·rw[rI.len]
      have:=bes_rgN okT hx
      omega
     ·exact Nat.le_trans (bes_len ties pn) (by omega)
     ·refine⟨_,_,rfl,rfl,_,rfl,_,rfl,(by show 3<=sizeLine;decide),fun o1 ho1=>?_⟩
      have s10:=s8.trans (s9.trans (Same.new (o:=.tup [.int (e.2.1+Nar.inc ties e.2.2.1 pn z),.ref u,.int e.2.2.2]) ho1))
      have go:VlAt (upd G5 o1 (.tup [.int (e.2.1+Nar.inc ties e.2.2.1 pn z),.ref u,.int e.2.2.2])) o1 (e.2.1+Nar.inc ties e.2.2.1 pn z,Nar.giv e.2.2.1 pn z,e.2.2.2):=⟨u,upd_same,(s9.trans (Same.new ho1)) _ _ gu⟩
      have gu':=(s9.trans (Same.new (o:=.tup [.int (e.2.1+Nar.inc ties e.2.2.1 pn z),.ref u,.int e.2.2.2]) ho1)) _ _ gu
      show tSeq _ _ _ _ (upd G5 o1 (.tup [.int (e.2.1+Nar.inc ties e.2.2.1 pn z),.ref u,.int e.2.2.2]))
      generalize (upd G5 o1 (.tup [.int (e.2.1+Nar.inc ties e.2.2.1 pn z),.ref u,.int e.2.2.2]))=G6 at s10 go gu' ⊢
      clear s8 s9 gu sH4 sG4
      have sG6:=sG'.trans s10
      have eo:(e.2.1+Nar.inc ties e.2.2.1 pn z,Nar.giv e.2.2.1 pn z,e.2.2.2).2.1=Nar.giv e.2.2.1 pn z:=rfl
      generalize (e.2.1+Nar.inc ties e.2.2.1 pn z,Nar.giv e.2.2.1 pn z,e.2.2.2)=one at go stp eo
      generalize Nar.giv e.2.2.1 pn z=row at gu' gI stp b1 b2 eo
      refine⟨_,rfl,ls[i],rfl,⟨_,SqL.of ((sBC.trans sG6) _ _ pO)⟩,?_⟩
      refine comp_list (K:=K) (a:=ls[i]) (xs:=(openAt (prs ties) ord i).map V.int) (fun j zs G=>Same G6 G/\zs=(((openAt (prs ties) ord i).take j).map fun f=>(Nar.atR row f).getD 0).map V.int) (by rw[List.length_map,sizeLine_eq];omega) ⟨Same.refl _,rfl⟩ (fun j zs G _ y=>SqL.of (y.1 _ _ ((sBC.trans sG6) _ _ pO))) ?_ ?_
      ·rintro j x zs G7 hx ⟨sG7,rfl⟩
       obtain⟨jl,ex⟩:=List.getElem?_eq_some_iff.mp hx
       rw[List.length_map]at jl
       rw[List.getElem_map]at ex
       subst ex
       have fm:=List.getElem_mem jl
       rw[List.take_succ_eq_append_getElem jl,List.map_append,List.map_append]
       generalize (openAt (prs ties) ord i)[j]=f at *
       obtain⟨q1,_,eq1⟩:=gI.done _ (inO f fm)
       have f0:=oN.rg f (List.mem_of_mem_take (inO f fm))
       have ax:=at_row f0.1 (show f.toNat<row.length by rw[gI.len];omega)
       rw[eq1]at ax
       refine⟨⟨rfl,trivial⟩,_,rfl,_,rfl,u,_,_,_,rfl,rfl,sG7 _ _ gu',ax,sG7,?_⟩
       show _=_++[V.int ((Nar.atR row f).getD 0)]
       rw[eq1]
       rfl
      ·rintro zs G7 _ ⟨sG7,rfl⟩ kl hkl
       rw[List.length_map,List.take_length]
       refine⟨kl,_,rfl,upd_same,fun kt hkt=>?_⟩
       have s11:=s10.trans (sG7.trans ((Same.new (o:=.lst (((openAt (prs ties) ord i).map fun f=>(Nar.atR row f).getD 0).map V.int)) hkl).trans (Same.new (o:=.tup (((openAt (prs ties) ord i).map fun f=>(Nar.atR row f).getD 0).map V.int)) hkt)))
       have gk:(upd (upd G7 kl (.lst (((openAt (prs ties) ord i).map fun f=>(Nar.atR row f).getD 0).map V.int))) kt (.tup (((openAt (prs ties) ord i).map fun f=>(Nar.atR row f).getD 0).map V.int))) kt=some (.tup ((kI (ky (openAt (prs ties) ord i) row)).map kV)):=by
        rw[upd_same,kI_map]
        rfl
       have go:=go.same (sG7.trans ((Same.new (o:=.lst (((openAt (prs ties) ord i).map fun f=>(Nar.atR row f).getD 0).map V.int)) hkl).trans (Same.new (o:=.tup (((openAt (prs ties) ord i).map fun f=>(Nar.atR row f).getD 0).map V.int)) hkt)))
       generalize (upd (upd G7 kl (.lst (((openAt (prs ties) ord i).map fun f=>(Nar.atR row f).getD 0).map V.int))) kt (.tup (((openAt (prs ties) ord i).map fun f=>(Nar.atR row f).getD 0).map V.int)))=G8 at s11 go gk
       have gL8:=s11 _ _ gL
       have pw8:Paired (PrE G8) kws kw:=Paired.mapP pw fun p e h=>h.to fun a xs ea=>s11 _ _ ea
       have sG8:=sG'.trans s11
       clear s10 s11 sG6 sG' gL pw
       generalize ky (openAt (prs ties) ord i) row=key at *
       have fin2:∀ (c:Addr) (v:Vl) (G9:Hp),VlAt G9 c v->Same G8 G9->((key∉kw.map (·.1)->v=one)/\∀ w,(key,w)∈kw->v=Nar.jn one w)->G9 ld=some (.dT kws)/\G9 kt=some (.tup ((kI key).map kV))/\Same C (upd G9 ld (.dT (putK kws (kI key) (.ref c))))/\Paired (PrE (upd G9 ld (.dT (putK kws (kI key) (.ref c))))) (putK kws (kI key) (.ref c)) (Nar.pt kw key v) /\
         DI (T0++Nar.blk S (pl (openAt (prs ties) ord) i) e.1 pn z) (Nar.cst ties) (ky (openAt (prs ties) ord i)) (Nar.pt kw key v)/\∀ x∈T0++Nar.blk S (pl (openAt (prs ties) ord) i) e.1 pn z,InR n ps ord (i+1) x:=by
        intro c v G9 vc s9 hv
        have gL9:=s9 _ _ gL8
        obtain⟨d1,d2⟩:=stp hv
        refine⟨gL9,s9 _ _ gk,same_put (sG8.trans s9) Cl,?_,d1,d2⟩
        have p9:Paired (PrE G9) kws kw:=Paired.mapP pw8 fun p e h=>h.to fun a xs ea=>s9 _ _ ea
        refine Paired.mapP (put_keys p9 (k:=key) vc) fun p e h=>h.to fun a xs ea=>?_
        rw[upd_ne (fun z=>by rw[z,gL9]at ea;cases ea)]
        exact ea
       refine⟨_,rfl,_,rfl,ld,_,rfl,DGet.t gL8 gk,_,rfl,?_⟩
       rcases get_keys pw8 key with⟨h1,h2⟩ |⟨w',wa,h1,h2,h3⟩
       ·rw[h2]
        obtain⟨f1,f2,f3,f4,f5,f6⟩:=fin2 o1 one G8 go (Same.refl _) ⟨fun _=>rfl,fun w' hw=>absurd (List.mem_map.mpr ⟨_,hw,rfl⟩) h1⟩
        exact iteF ⟨_,rfl,_,rfl,_,rfl,ld,_,rfl,DPut.t f1 f2 kwl,_,_,_,_,_,_,rfl,f3,upd_same,f4,f5,f6⟩
       ·rw[h2]
        refine iteT ⟨_,rfl,_,rfl,_,rfl,ld,.ref wa,rfl,?_,o1,wa,one,w',rfl,go,h3,?_,fun c1 G9 vc s9=>?_⟩
        ·rw[<- h2]
         exact DGet.t gL8 gk
        ·have m1:=(List.mem_filter.mp (E.sum _ h1).mem).1
         have lk:=Nar.in_like oN (hI _ m1) gI
         rw[<- eo]at lk
         exact lk
        ·have uq:∀ w2,(key,w2)∈kw->Nar.jn one w'=Nar.jn one w2:=fun w2 hw=>by rw[key_uq E.nd h1 hw]
         obtain⟨f1,f2,f3,f4,f5,f6⟩:=fin2 c1 _ G9 vc s9 ⟨fun y=>absurd (List.mem_map.mpr ⟨_,h1,rfl⟩) y,uq⟩
         exact⟨_,rfl,_,rfl,ld,_,rfl,DPut.t f1 f2 kwl,_,_,_,_,_,_,rfl,f3,upd_same,f4,f5,f6⟩
    ·rw[List.length_map]
     rintro σ G ⟨kws,kw,v12,v13,v14,v15,rfl,sG',gL,pw,E,hI⟩
     rw[sfE]at E hI
     exact⟨kws,kw,_,_,_,_,_,_,_,rfl,sG',gL,pw,E,hI⟩
   ·rintro σ G ⟨kws,kw,v9,v10,v11,v12,v13,v14,v15,rfl,sG',gL,pw,E,hI⟩
    rw[kvl]at E
    exact⟨_,rfl,ld,kws,kw,_,_,_,_,_,_,_,_,_,_,_,_,rfl,sBC.trans sG',sBC.free Cl,gL,pw,all,E⟩
  ·rw[mn]
   rintro σ G ⟨fa,kvs,kv,S,v5,v6,v7,v8,v9,v10,v11,v12,v13,v14,v15,rfl,sG,fN,gf,pk,sp,D⟩
   refine⟨_,rfl,(by show 0<=sizeLine;decide),fun k hk=>?_⟩
   have pn:pl (openAt (prs ties) ord) n=[]:=by
    obtain⟨m,rfl⟩:∃ m,n=m+1:=⟨n-1,by omega⟩
    exact oP.fin m rfl
   rw[pn]at D
   have k0:∀ r:Row,ky [] r=[]:=fun r=>rfl
   have ne:∃ r,r∈S:=by
    obtain⟨r,hr⟩:=Nar.rl_ne (n:=n) (ps:=ps) (ord:=ord) (fun z=>by have:=po.lo;rw[z]at this;simp at this) n
    exact⟨r,sp.mem_iff.mpr hr⟩
   rcases get_keys pk []with⟨h1,_⟩ |⟨v,a,h1,h2,h3⟩
   ·obtain⟨r,hr⟩:=ne
    exact absurd (D.cov r hr) h1
   ·refine⟨fa,.ref a,rfl,?_,?_⟩
    ·have:=DGet.t (k:=[]) (Same.new (o:=.tup []) hk _ _ gf) (upd_same (H:=G) (a:=k) (o:=.tup []))
     rw[<- h2]
     exact this
    ·refine fin a v _ (h3.same (Same.new hk)) ?_ (sHB.trans (sG.trans (Same.new hk)))
     have:=D.sum _ h1
     have e:(S.filter fun r=>decide (ky [] r=[]))=S:=List.filter_eq_self.mpr fun x _=>decide_eq_true (k0 x)
     show Nar.IsSum _ _ _ _ _
     have this:Nar.IsSum (S.filter fun r=>decide (ky [] r=[])) (Nar.cst ties) v.1 v.2.1 v.2.2:=this
     rw[e]at this
     exact this.perm sp
end
end K45
namespace Nar
open L2
noncomputable def LR(ps:List Int):Nat->List (List Int)
 | 0=>[[]]
 |j+1=>(LR ps j).flatMap fun r=>(ch ps j).map fun o=>r++[o]
theorem lr_mem{ps:List Int}:∀ {n:Nat}{r:List Int},r∈LR ps n↔r.length=n/\∀ (j:Nat) (h:j<r.length),r[j]∈ch ps j
 | 0,r=>by
  constructor
  ·intro h
   rw[List.mem_singleton.mp h]
   exact⟨rfl,fun j h=>absurd h (Nat.not_lt_zero j)⟩
  ·intro h
   exact List.mem_singleton.mpr (List.length_eq_zero_iff.mp h.1)
 |n+1,r=>by
  constructor
  ·intro h
   obtain⟨r0,h0,h1⟩:=List.mem_flatMap.mp h
   obtain⟨o,ho,rfl⟩:=List.mem_map.mp h1
   obtain⟨l0,a0⟩:=lr_mem.mp h0
   refine⟨by rw[List.length_append,l0];rfl,fun j hj=>?_⟩
   by_cases z:j<r0.length
   ·rw[List.getElem_append_left z]
    exact a0 j z
   ·have ej:j=r0.length:=by
     rw[List.length_append]at hj
     have:([o]:List Int).length=1:=rfl
     omega
    subst ej
    rw[List.getElem_append_right (Nat.le_refl _)]
    simp only[Nat.sub_self,List.getElem_cons_zero]
    rw[l0]
    exact ho
  ·rintro⟨l,a⟩
   have hn:n<r.length:=by omega
   refine List.mem_flatMap.mpr ⟨r.take n,lr_mem.mpr ⟨by rw[List.length_take];omega,fun j hj=>?_⟩,List.mem_map.mpr ⟨r[n],a n hn,?_⟩⟩
   ·rw[List.getElem_take]
    exact a j _
   ·rw[<- List.take_succ_eq_append_getElem hn,List.take_of_length_le (by omega)]
theorem ch_nd{ps:List Int}(nd:ps.Nodup)(p:Int):(ch ps p).Nodup:=by
 unfold ch
 by_cases z:p∈ps
 ·rw[if_pos z];exact List.pairwise_singleton _ _
 ·rw[if_neg z];exact nd
theorem lr_nd{ps:List Int}(nd:ps.Nodup):∀ n,(LR ps n).Nodup
 | 0=>List.pairwise_singleton _ _
 |n+1=>by
  refine List.pairwise_flatMap.mpr ⟨fun r _=>?_,?_⟩
  ·exact List.Pairwise.map _ (fun a b ne e=>ne (by simpa using e)) (ch_nd nd n)
  ·refine(lr_nd nd n).imp fun {r r'} ne x hx y hy e=>?_
   obtain⟨o,_,rfl⟩:=List.mem_map.mp hx
   obtain⟨o',_,rfl⟩:=List.mem_map.mp hy
   exact ne (List.append_inj_left' e rfl)
theorem giv_undo{n:Nat}{ps ord:List Int}{i:Nat}{r:Row}{p q:Int}(h:r[p.toNat]?=some none):(giv r p q).set p.toNat none=r:=by
 unfold giv
 rw[List.set_set]
 obtain⟨hl,e⟩:=List.getElem?_eq_some_iff.mp h
 rw[<- e]
 exact List.set_getElem_self _
theorem rl_nd{n:Nat}{ps ord:List Int}(nd:ps.Nodup)(o:OrdN n ord):∀ {i:Nat},i<=n->(RL n ps ord i).Nodup
 | 0,_=>List.pairwise_singleton _ _
 |i+1,hi=>by
  obtain⟨_,p0,p1,nm,_⟩:=o.at (show i<n by omega)
  have fr:∀ r∈RL n ps ord i,r[(ord.getD i 0).toNat]?=some none:=fun r hr=>(rl_in o (by omega) r hr).free _ p0 p1 nm
  refine List.pairwise_flatMap.mpr ⟨fun r hr=>?_,?_⟩
  ·refine List.Pairwise.map _ (fun a b ne e=>ne ?_) (ch_nd nd _)
   have hl:(ord.getD i 0).toNat<r.length:=(List.getElem?_eq_some_iff.mp (fr r hr)).1
   have e1:=at_giv (q:=a) hl
   have e2:=at_giv (q:=b) hl
   rw[e,e2]at e1
   injection e1 with e1
   exact e1.symm
  ·refine List.Pairwise.imp_of_mem ?_ (rl_nd nd o (show i<=n by omega))
   intro r r' hr hr' ne x hx y hy e
   obtain⟨a,_,rfl⟩:=List.mem_map.mp hx
   obtain⟨b,_,rfl⟩:=List.mem_map.mp hy
   refine ne ?_
   rw[<- giv_undo (n:=n) (ps:=ps) (ord:=ord) (i:=i) (q:=a) (fr r hr),<- giv_undo (n:=n) (ps:=ps) (ord:=ord) (i:=i) (q:=b) (fr r' hr'),e]
theorem rl_of{n:Nat}{ps ord:List Int}(o:OrdN n ord):∀ {i:Nat}{r:Row},i<=n->InR n ps ord i r->r∈RL n ps ord i
 | 0,r,_,h=>by
  refine List.mem_singleton.mpr (List.ext_getElem ?_ fun j h1 h2=>?_)
  ·rw[h.len,List.length_replicate]
  ·have jn:j<n:=by rw[<- h.len];exact h1
   have:=h.free (j:Int) (by omega) (by omega) (by rw[List.take_zero];exact fun z=>nomatch z)
   rw[Int.toNat_natCast,List.getElem?_eq_getElem h1]at this
   injection this with this
   rw[this,List.getElem_replicate]
 |i+1,r,hi,h=>by
  obtain⟨_,p0,p1,nm,tk⟩:=o.at (show i<n by omega)
  obtain⟨q,hq,eq⟩:=h.done (ord.getD i 0) (by rw[tk];exact List.mem_append_right _ (List.mem_singleton.mpr rfl))
  have hl:(ord.getD i 0).toNat<r.length:=by rw[h.len];omega
  refine List.mem_flatMap.mpr ⟨r.set (ord.getD i 0).toNat none,rl_of o (by omega) ⟨by rw[List.length_set];exact h.len,fun p hp=>?_,fun p a0 a1 hp=>?_⟩,List.mem_map.mpr ⟨q,hq,?_⟩⟩
  ·obtain⟨q',hq',e'⟩:=h.done p (by rw[tk];exact List.mem_append_left _ hp)
   refine⟨q',hq',?_⟩
   have ne:(ord.getD i 0).toNat≠p.toNat:=fun z=>by
    have:=(o.rg p (List.mem_of_mem_take hp)).1
    exact nm ((show p=ord.getD i 0 by omega)▸hp)
   unfold atR at e' ⊢
   rw[List.getElem?_set_ne ne]
   exact e'
  ·by_cases z:p=ord.getD i 0
   ·rw[z,List.getElem?_set_self hl]
   ·rw[List.getElem?_set_ne (fun y=>z (by omega))]
    refine h.free p a0 a1 fun y=>?_
    rw[tk,List.mem_append,List.mem_singleton]at y
    rcases y with y | y
    ·exact hp y
    ·exact z y
  ·unfold giv
   rw[List.set_set]
   unfold atR at eq
   rw[List.getElem?_eq_getElem hl]at eq
   have eq:r[(ord.getD i 0).toNat]=some q:=eq
   rw[<- eq]
   exact List.set_getElem_self _
theorem ord_all{n:Nat}{ord:List Int}(pm:ord.Perm ((List.range n).map fun(i:Nat)=>(i:Int))){j:Nat}(h:j<n):(j:Int)∈ord:=pm.mem_iff.mpr (List.mem_map.mpr ⟨j,List.mem_range.mpr h,rfl⟩)
theorem rl_lr{n:Nat}{ps ord:List Int}(nd:ps.Nodup)(o:OrdN n ord)(al:∀ j:Nat,j<n->(j:Int)∈ord):((LR ps n).map fun r=>r.map some).Perm (RL n ps ord n):=by
 have n1:((LR ps n).map fun r=>r.map some).Nodup:=List.Pairwise.map _ (fun a b ne e=>ne ((List.map_inj_right fun _ _ z=>by injection z).mp e)) (lr_nd nd n)
 refine(List.perm_ext_iff_of_nodup n1 (rl_nd nd o (Nat.le_refl n))).mpr fun r=>?_
 ·have tn:ord.take n=ord:=List.take_of_length_le (by rw[o.len];exact Nat.le_refl _)
  constructor
  ·intro h
   obtain⟨r0,h0,rfl⟩:=List.mem_map.mp h
   obtain⟨l0,a0⟩:=lr_mem.mp h0
   refine rl_of o (Nat.le_refl n) ⟨by rw[List.length_map];exact l0,fun p hp=>?_,fun p p0 p1 hp=>absurd ?_ hp⟩
   ·rw[tn]at hp
    obtain⟨p0,p1⟩:=o.rg p hp
    have hl:p.toNat<r0.length:=by omega
    refine⟨r0[p.toNat],?_,?_⟩
    ·have:=a0 _ hl
     rw[show((p.toNat:Nat):Int)=p by omega]at this
     exact this
    ·unfold atR
     rw[List.getElem?_map,List.getElem?_eq_getElem hl]
     rfl
   ·rw[tn]
    have:=al p.toNat (by omega)
    rw[show((p.toNat:Nat):Int)=p by omega]at this
    exact this
  ·intro h
   have I:=rl_in o (Nat.le_refl n) r h
   have dn:∀ (j:Nat) (hj:j<r.length),∃ q∈ch ps j,r[j]=some q:=fun j hj=>by
    obtain⟨q,hq,e⟩:=I.done (j:Int) (by rw[tn];exact al j (by rw[<- I.len];exact hj))
    refine⟨q,hq,?_⟩
    unfold atR at e
    rw[Int.toNat_natCast,List.getElem?_eq_getElem hj]at e
    exact e
   refine List.mem_map.mpr ⟨r.map fun x=>x.getD 0,lr_mem.mpr ⟨by rw[List.length_map];exact I.len,fun j hj=>?_⟩,?_⟩
   ·rw[List.length_map]at hj
    obtain⟨q,hq,e⟩:=dn j hj
    rw[List.getElem_map,e]
    exact hq
   ·rw[List.map_map]
    refine List.ext_getElem (by rw[List.length_map]) fun j h1 h2=>?_
    obtain⟨q,hq,e⟩:=dn j h2
    rw[List.getElem_map]
    show some (r[j].getD 0)=r[j]
    rw[e]
    rfl
end Nar
namespace K45
open PySem L2 PyProof.Rows
open Nar (Row Vl RL LR ch ky pl DI InR OrdN OpN)
inductive spCoI(vs:List V)(H:Hp)(Q:VK):Prop where
 |mk (t o:Addr) (n:Nat) (ties:List Tie) (r:List Int) (h1:vs=[.ref t,.ref o]) (h2:WebAt H t n ties) (h3:(∀ x∈ties,TieOk n x)) (h4:H o=some (.tup (r.map V.int))) (h5:r.length=n) (h6:∀ H',Same H H'->Q (.int (Nar.cst ties (r.map some))) H')
noncomputable def spCo:Sp:=fun vs H Q _=>spCoI vs H Q
inductive spPwI(vs:List V)(H:Hp)(Q:VK):Prop where
 |mk (k m:Int) (h1:vs=[.int k,.int m]) (h2:0<=k) (h3:k<=6) (h4:0<=m) (h5:m<=30) (h6:∀ (H':Hp),Same H H'->Q (.int (k ^ m.toNat)) H')
noncomputable def spPw:Sp:=fun vs H Q _=>spPwI vs H Q
theorem at_int{r:List Int}{f:Int}(h0:0<=f)(h:f.toNat<r.length):atI (r.map V.int) f=some (V.int r[f.toNat]):=by
 have e:f=((f.toNat:Nat):Int):=by omega
 have:=atI_nat (xs:=r.map V.int) (j:=f.toNat) (v:=V.int r[f.toNat]) (by rw[List.getElem?_map,List.getElem?_eq_getElem h];rfl)
 rw[<- e]at this
 exact this
theorem atR_some{r:List Int}{f:Int}(h:f.toNat<r.length):Nar.atR (r.map some) f=some r[f.toNat]:=by
 unfold Nar.atR
 rw[List.getElem?_map,List.getElem?_eq_getElem h]
 rfl
theorem dfc_eq{r:List Int}{u v c:Int}(hu:u.toNat<r.length)(hv:v.toNat<r.length):Nar.dfc (r.map some) (u,v,c)=if r[u.toNat]=r[v.toNat]then 0 else c:=by
 unfold Nar.dfc
 rw[atR_some hu,atR_some hv]
section
variable{P:Program}{w:World}{K:PySem.W.Frag}{mg:Str->Option Value}{base:Heap}
noncomputable abbrev nCo:List Str:=["_law_web","_law_owners"]
theorem scCo:FnScope nCo ["_law_web","_law_owners"] (defScope sCost):=⟨rfl,rfl,rfl,by decide +kernel,rfl,by decide +kernel,by decide +kernel⟩
theorem csCo1:CompScope ["_law_a","_law_b","_law_weight_here","_law_owners"] [none,none,none,some 1] nCo (defScope sCost) (scO [(".0",.local),("_law_a",.local),("_law_b",.local),("_law_weight_here",.local),("_law_owners",.free)]):=⟨rfl,by decide +kernel,by decide +kernel,by decide +kernel,rfl,capB_ok (by decide +kernel)⟩
theorem ndCo1:(["_law_a","_law_b","_law_weight_here","_law_owners"]:List Str).Nodup:=by decide +kernel
theorem ok_co{f:Addr}{fd:FuncData}(F:Fun K "_law_cost" "_law_cost" sCost f fd)(T:Txt mg):FnOk P w K mg base CX0 1 f fd ["_law_web","_law_owners"] spCo:=by
 refine F.ok scCo (fun vs H Q E h=>?_) (fun cdv A outer s H vs Q E hr h=>?_)
 ·obtain⟨t,o,n,ties,r,rfl,_⟩:=h
  rfl
 ·obtain⟨t,o,n,ties,r,rfl,W,ok,ho,rl,fin⟩:=h
  obtain⟨⟨ts,bs,h1,h2,h3⟩,len⟩:=id W
  have h3l:bs.length=ties.length:=h3.length
  refine⟨_,(pss_one (ps_ret (pe_callB (call_sumH rfl) (by rfl) T.sum boot_sum (@pa_comp _ _ _ _ _ _ _ _ (pe_comp rfl csCo1 (pi_tup (@pe_ix _ _ _ _ _ _ _ ix_tupH (pv 0) pe_int (fun _ _=>rfl))) (fun C s H fp=>(pg_tupK K rfl (n:=3) rfl (pgs_cons (pg_name (i:=0) ndCo1 rfl (Or.inl rfl)) (pgs_cons (pg_name (i:=1) ndCo1 rfl (Or.inl rfl)) (pgs_cons (pg_name (i:=2) ndCo1 rfl (Or.inl rfl)) pgs_nil))) rfl rfl)) (fun C s H fp=>(pf_one (pt_cmpR op_ne (@pe_ix _ _ _ _ _ _ _ ix_tupH (pv 3) (pv 0) (fun _ _=>rfl)) (@pe_ix _ _ _ _ _ _ _ ix_tupH (pv 3) (pv 1) (fun _ _=>rfl)) (nomark _)))) (fun C s H fp=>(pv 2))) pa_nil)))),?_⟩
  refine⟨_,rfl,t,_,_,_,rfl,rfl,h1,at1,ts,rfl,⟨_,SqT.of h2⟩,?_⟩
  refine comp_tup (K:=K) (a:=ts) (xs:=bs.map V.ref) (fun i zs G=>Same H G/\∃ ws:List Int,zs=ws.map V.int/\ws.sum=((ties.take i).map (Nar.dfc (r.map some))).sum) (by rw[List.length_map,sizeLine_eq];lia) ⟨Same.refl _,[],rfl,rfl⟩ (fun i zs G _ z=>SqT.of (z.1 _ _ h2)) ?_ ?_
  ·rintro i x zs G hx ⟨sG,ws,rfl,sw⟩
   obtain⟨il,e⟩:=List.getElem?_eq_some_iff.mp hx
   rw[List.length_map]at il
   rw[List.getElem_map]at e
   subst e
   have it:i<ties.length:=by lia
   have gx:=sG _ _ (Paired.at h3 i il it)
   have okx:=ok _ (List.getElem_mem it)
   have tk:((ties.take (i+1)).map (Nar.dfc (r.map some))).sum=((ties.take i).map (Nar.dfc (r.map some))).sum+Nar.dfc (r.map some) ties[i]:=by
    rw[List.take_succ_eq_append_getElem it,List.map_append,List.sum_append,List.map_singleton,List.sum_singleton]
   rw[tk]
   generalize ties[i]=x at *
   obtain⟨u,v,c⟩:=x
   obtain⟨o1,o2,o3,o4⟩:=id okx
   have o1:0<=u:=o1
   have o2:u<v:=o2
   have o3:v<n:=o3
   have ul:u.toNat<r.length:=by lia
   have vl:v.toNat<r.length:=by lia
   rw[dfc_eq ul vl]
   refine⟨bs[i],_,rfl,SqT.of gx,rfl,_,_,rfl,_,_,rfl,_,_,rfl,rfl,⟨rfl,trivial⟩,?_⟩
   refine⟨_,rfl,_,rfl,o,_,_,_,rfl,rfl,sG _ _ ho,at_int o1 ul,_,rfl,_,rfl,o,_,_,_,rfl,rfl,sG _ _ ho,at_int (by lia) vl,rfl,_,rfl,?_⟩
   generalize r[u.toNat]=y1 at *
   generalize r[v.toNat]=y2 at *
   refine ite2 (fun h=>?_) (fun h=>?_)
   ·have ne:¬ y1=y2:=fun z=>by
     have:decide (V.int y1=V.int y2)=true:=decide_eq_true (by rw[z])
     have h:(!decide (V.int y1=V.int y2))=true:=h
     rw[this]at h
     cases h
    refine⟨_,rfl,sG,ws++[c],by rw[List.map_append];rfl,?_⟩
    rw[if_neg ne,List.sum_append,List.sum_singleton,sw]
   ·have e:y1=y2:=by
     by_cases z:V.int y1=V.int y2
     ·injection z
     ·exact absurd (by show(!decide (V.int y1=V.int y2))=true;rw[decide_eq_false z];rfl) h
    refine⟨sG,ws,rfl,?_⟩
    rw[if_pos e,sw]
    lia
  ·rintro zs G _ ⟨sG,ws,rfl,sw⟩ D hD
   rw[List.length_map,h3l,List.take_length]at sw
   refine⟨D,_,rfl,upd_same,?_⟩
   rw[sw]
   exact fin _ (sG.trans (Same.new hD))
noncomputable abbrev nPw:List Str:=["_law_one","_law_many_here","_law_found","_law_turn"]
theorem scPw:FnScope nPw ["_law_one","_law_many_here"] (defScope sPower):=⟨rfl,rfl,rfl,by decide +kernel,rfl,by decide +kernel,by decide +kernel⟩
theorem ok_pw{f:Addr}{fd:FuncData}(F:Fun K "_law_power" "_law_power" sPower f fd)(T:Txt mg):FnOk P w K mg base CX0 1 f fd ["_law_one","_law_many_here"] spPw:=by
 refine F.ok scPw (fun vs H Q E h=>?_) (fun cdv A outer s H vs Q E hr h=>?_)
 ·obtain⟨k,m,rfl,_⟩:=h
  rfl
 ·obtain⟨k,m,rfl,k0,k6,m0,m30,fin⟩:=h
  refine⟨_,(pss_cons (ps_set (i:=2) scPw.nd rfl (Or.inl rfl) pe_int)
   (pss_cons (ps_for PassesOwn.never rfl (pi_range1 rfl T.range (@pa_nam _ _ _ _ _ _ (pv 1) pa_nil)) (pg_name (i:=3) scPw.nd rfl (Or.inl rfl))
   (pss_one (ps_set (i:=2) scPw.nd rfl (Or.inl rfl) (pe_op op_mul (pv 2) (pv 0)))))
   (pss_one (ps_ret (pv 2))))),?_⟩
  refine⟨_,rfl,_,rfl,by omega,by omega,?_⟩
  generalize m.toNat=mn at fin ⊢
  refine for_range (lo:=0) (n:=mn) (fun j σ G=>∃ (z:Int) (v3:Option V),σ=[some (.int k),some (.int m),some (.int z),v3]/\z=k ^ j/\Same H G) ⟨_,_,rfl,(Int.pow_zero k).symm,Same.refl _⟩ ?_ ?_
  ·rintro j σ G hj ⟨z,v3,rfl,ez,sG⟩
   exact⟨_,rfl,_,rfl,_,_,rfl,rfl,.inr ⟨by omega,by omega⟩,_,_,rfl,by rw[ez,Int.pow_succ],sG⟩
  ·rintro σ G ⟨z,v3,rfl,ez,sG⟩
   rw[ez]
   exact⟨_,rfl,fin _ sG⟩
end
open PySem L2 PyProof.Rows
inductive spAlI(vs:List V)(H:Hp)(Q:VK):Prop where
 |mk (t:Addr) (n:Nat) (ties:List Tie) (h1:vs=[.ref t]) (h2:WebAt H t n ties) (h3:n<=29) (h4:∀ (t':Addr) (H':Hp),WebAt H' t' (n+1) ties->Same H H'->Q (.ref t') H')
noncomputable def spAl:Sp:=fun vs H Q _=>spAlI vs H Q
section
variable{P:Program}{w:World}{K:PySem.W.Frag}{mg:Str->Option Value}{base:Heap}
noncomputable abbrev nAl:List Str:=["_law_web"]
theorem scAl:FnScope nAl ["_law_web"] (defScope sAlone):=⟨rfl,rfl,rfl,by decide +kernel,rfl,by decide +kernel,by decide +kernel⟩
theorem ok_al{f:Addr}{fd:FuncData}(F:Fun K "_law_alone" "_law_alone" sAlone f fd)(T:Txt mg):FnOk P w K mg base CX0 1 f fd ["_law_web"] spAl:=by
 refine F.ok scAl (fun vs H Q E h=>?_) (fun cdv A outer s H vs Q E hr h=>?_)
 ·obtain⟨t,n,ties,rfl,_⟩:=h
  rfl
 ·obtain⟨t,n,ties,rfl,W,n29,fin⟩:=h
  obtain⟨⟨ts,bs,h1,h2,h3⟩,len⟩:=id W
  refine⟨_,(pss_one (ps_ret (@pe_tup _ _ _ _ _ (@pa_bin _ _ _ _ _ _ _ _ (pe_op op_add (@pe_ix _ _ _ _ _ _ _ ix_tupH (pv 0) pe_int (fun _ _=>rfl)) pe_int) (@pa_sub _ _ _ _ _ _ _ (@pe_ix _ _ _ _ _ _ _ ix_tupH (pv 0) pe_int (fun _ _=>rfl)) pa_nil))))),?_⟩
  refine⟨_,rfl,t,_,_,_,rfl,rfl,h1,at0,_,_,rfl,rfl,_,rfl,t,_,_,_,rfl,rfl,h1,at1,(by show 2<=sizeLine;decide),fun c hc=>?_⟩
  have s1:=Same.new (o:=.tup [.int ((n:Int)+1),.ref ts]) hc
  exact fin _ _ ⟨⟨ts,bs,upd_same,s1 _ _ h2,Paired.mapP h3 fun _ _ e=>s1 _ _ e⟩,len⟩ s1
end
end K45
namespace L2
open PySem PySem.W PyProof.Rows Srt
theorem int_inj{ns ms:List Int}(h:ns.map V.int=ms.map V.int):ns=ms:=by
 induction ns generalizing ms with
 |nil=>cases ms with
  |nil=>rfl
  |cons y m=>cases h
 |cons x l ih=>cases ms with
  |nil=>cases h
  |cons y m =>
   rw[List.map_cons,List.map_cons]at h
   injection h with a b
   injection a with a
   rw[a,ih b]
theorem all_likeG{α:Type}[DecidableEq α]{ns ms:List α}{a b:Nat}(l1:ns.length=a)(l2:ms.length=b)(h:((List.range (min a b)).all (fun j=>decide (ns[j]?=ms[j]?)) && a == b)=true):ns=ms:=by
 rw[Bool.and_eq_true,List.all_eq_true,beq_iff_eq]at h
 obtain⟨h1,h2⟩:=h
 apply List.ext_getElem?
 intro i
 by_cases hi:i<ns.length
 ·exact of_decide_eq_true (h1 i (List.mem_range.mpr (by omega)))
 ·rw[List.getElem?_eq_none (by omega),List.getElem?_eq_none (by omega)]
theorem ref_inj{ns ms:List Addr}(h:ns.map V.ref=ms.map V.ref):ns=ms:=by
 induction ns generalizing ms with
 |nil=>cases ms with
  |nil=>rfl
  |cons y m=>cases h
 |cons x l ih=>cases ms with
  |nil=>cases h
  |cons y m =>
   rw[List.map_cons,List.map_cons]at h
   injection h with a b
   injection a with a
   rw[a,ih b]
section
variable{X:Cx}
theorem eqL{pins:List (Addr×Obj)}{σ:St}{H:Hp}{s:Shared}(I:Inv X pins σ H s){A:Around}{p q:Addr}{ns ms:List Int}(hu:A.units<cLine)(hp:H p=some (.lst (ns.map V.int)))(hq:H q=some (.lst (ms.map V.int))):SeqAt.EqAt A s (.ref p) (.ref q) (decide (ns=ms)):=by
 by_cases e:p=q
 ·subst e
  rw[hp]at hq
  injection hq with hq
  injection hq with hq
  rw[decide_eq_true (int_inj hq)]
  exact SeqAt.EqAt.same _
 ·obtain⟨its,r,pl,hz⟩:=I.list (SqL.of (K:=X.K) hp)
  obtain⟨its',r',pl',hz'⟩:=I.list (SqL.of (K:=X.K) hq)
  have l1:=r.length
  have l2:=r'.length
  rw[List.length_map]at l1 l2
  by_cases z:its.length=its'.length
  ·have:=SeqAt.EqAt.of_refs e (SeqAt.RcAt.lists (A:=A) pl.isList pl'.isList (by simp only[List.size_toArray];exact z) hu (e:=fun j=>decide (ns[j]?=ms[j]?)) (eqAt_ints r r'))
   have fin:=all_like (ns:=ns) (ms:=ms) (a:=its.length) (b:=its.length) l1 (by omega)
   rw[Nat.min_self,beq_self_eq_true,Bool.and_true]at fin
   rw[show its.toArray.size=its.length from List.size_toArray ..,fin]at this
   exact this
  ·have:=SeqAt.EqAt.of_refs e (SeqAt.RcAt.lists_lengths (A:=A) pl.isList pl'.isList (by simp only[List.size_toArray];exact bne_iff_ne.mpr z) hu)
   rw[decide_eq_false (fun w=>z (by rw[<- l1,<- l2,w]))]
   exact this
inductive rNinLI(x:V)(y:V)(H:Hp)(Q:VK):Prop where
 |mk (p l:Addr) (as:List Addr) (ns:List Int) (h1:x = .ref p) (h2:y = .ref l) (h3:H p=some (.lst (ns.map V.int))) (h4:H l=some (.lst (as.map V.ref))) (h5:(∀ a∈as,∃ ks:List Int,H a=some (.lst (ks.map V.int)))) (h6:∀ b,Q (.bl b) H)
noncomputable def rNinL:R2:=fun x y H Q=>rNinLI x y H Q
open Classical in
theorem op_ninL(hu:X.A.units+1<cLine):OpR X (compareOp .NotIn) rNinL:=by
 intro pins s σ H x y v u Q I rx ry h
 obtain⟨p,l,as,ns,rfl,rfl,hp,hl,ht,q⟩:=h
 cases rx
 cases ry
 obtain⟨its,r,pl,hz⟩:=I.list (SqL.of (K:=X.K) hl)
 have er:=refs_of r
 subst er
 refine SeqAt.notIn_listAt (fun u=>decide (∃ a,u=Value.ref a/\H a=some (.lst (ns.map V.int)))) pl.isList (fun w hw=>?_) ⟨.bl _,H,I,rfl,q _⟩
 obtain⟨a,ha,rfl⟩:=List.mem_map.mp (by simpa using hw)
 obtain⟨ks,e⟩:=ht a ha
 have:=eqL I (A:=X.A.in1) (by show X.A.units+1<cLine;exact hu) e hp
 have g:decide (ks=ns)=decide (∃ b,Value.ref a=Value.ref b/\H b=some (.lst (ns.map V.int))):=by
  rw[Bool.eq_iff_iff,decide_eq_true_iff,decide_eq_true_iff]
  constructor
  ·rintro rfl
   exact⟨a,rfl,e⟩
  ·rintro⟨b,hb,e2⟩
   injection hb with hb
   rw[<- hb,e]at e2
   injection e2 with e2
   injection e2 with e2
   exact int_inj e2
 rw[g]at this
 exact this
theorem tups_one{H:Hp}{as:List Addr}{ks ls:List (List Int)}(h:TupsAt H as ks)(h':TupsAt H as ls):ks=ls:=by
 have l1:=Paired.length h
 have l2:=Paired.length h'
 apply List.ext_getElem (by omega)
 intro j h1 h2
 have a:=Paired.at h j (by omega) h1
 have b:=Paired.at h' j (by omega) h2
 rw[a]at b
 injection b with b
 injection b with b
 exact int_inj b
inductive rEqWI(x:V)(y:V)(H:Hp)(Q:VK):Prop where
 |mk (a b ts us:Addr) (n m:Int) (as bs:List Addr) (ks ls:List (List Int)) (h1:x = .ref a) (h2:y = .ref b) (h3:H a=some (.tup [.int n,.ref ts])) (h4:H b=some (.tup [.int m,.ref us])) (h5:H ts=some (.tup (as.map V.ref))) (h6:H us=some (.tup (bs.map V.ref))) (h7:TupsAt H as ks) (h8:TupsAt H bs ls) (h9:∀ z:Bool,(z=true->ks=ls)->Q (.bl z) H)
noncomputable def rEqW:R2:=fun x y H Q=>rEqWI x y H Q
theorem eqTT{pins:List (Addr×Obj)}{σ:St}{H:Hp}{s:Shared}(I:Inv X pins σ H s){A:Around}(hu:A.units+1<cLine){ts us:Addr}{as bs:List Addr}{ks ls:List (List Int)}(ht:H ts=some (.tup (as.map V.ref)))(hu':H us=some (.tup (bs.map V.ref)))(pa:TupsAt H as ks)(pb:TupsAt H bs ls):∃ z:Bool,(z=true->ks=ls)/\SeqAt.EqAt A s (.ref ts) (.ref us) z:=by
 by_cases e:ts=us
 ·subst e
  rw[ht]at hu'
  injection hu' with hu'
  injection hu' with hu'
  have ea:as=bs:=ref_inj hu'
  subst ea
  exact⟨true,fun _=>tups_one pa pb,SeqAt.EqAt.same _⟩
 ·obtain⟨its,r,pl,hz⟩:=I.tuple (SqT.of (K:=X.K) ht)
  obtain⟨its',r',pl',hz'⟩:=I.tuple (SqT.of (K:=X.K) hu')
  have er:=refs_of r
  subst er
  have er:=refs_of r'
  subst er
  have l1:=Paired.length pa
  have l2:=Paired.length pb
  refine⟨_,fun z=>?_,SeqAt.EqAt.of_refs e (SeqAt.RcAt.tuples (A:=A) (show s.heap.IsTuple ts _ from pl) (show s.heap.IsTuple us _ from pl') (by omega) (e:=fun j=>decide (ks[j]?=ls[j]?)) fun j h1 h2=>?_)⟩
  ·exact all_likeG (by simp;omega) (by simp;omega) z
  ·simp only[List.size_toArray,List.length_map]at h1 h2
   have e1:=Paired.at pa j h1 (by omega)
   have e2:=Paired.at pb j h2 (by omega)
   simp only[List.getElem_toArray,List.getElem_map]
   rw[List.getElem?_eq_getElem (by omega),List.getElem?_eq_getElem (by omega)]
   have:=eqT (A:=A.in1) (by show A.units+1<cLine;omega) (tupI_of I e1) (tupI_of I e2)
   rw[show(decide (some ks[j]=some ls[j]))=decide (ks[j]=ls[j]) by rw[Bool.eq_iff_iff,decide_eq_true_iff,decide_eq_true_iff];simp]
   exact this
theorem op_eqW(hu:X.A.units+2<cLine):OpR X (compareOp .Eq) rEqW:=by
 intro pins s σ H x y v u Q I rx ry h
 obtain⟨a,b,ts,us,n,m,as,bs,ks,ls,rfl,rfl,ha,hb,ht,hu',pa,pb,q⟩:=h
 cases rx
 cases ry
 obtain⟨its,r,pl,hz⟩:=I.tuple (SqT.of (K:=X.K) ha)
 obtain⟨its',r',pl',hz'⟩:=I.tuple (SqT.of (K:=X.K) hb)
 obtain⟨z,hz1,hz2⟩:=eqTT I (A:=X.A.in1) (by show X.A.units+1+1<cLine;omega) ht hu' pa pb
 rcases r with _ |⟨r1,r⟩
 rcases r with _ |⟨r2,r⟩
 cases r
 rcases r' with _ |⟨r1',r'⟩
 rcases r' with _ |⟨r2',r'⟩
 cases r'
 obtain⟨t1,rfl⟩:=r1
 obtain⟨t2,rfl⟩:=r1'
 cases r2
 cases r2'
 refine SeqAt.RcAt.tuples (show s.heap.IsTuple a _ from pl) (show s.heap.IsTuple b _ from pl') (by omega) (e:=fun j=>if j=0 then n == m else z) (fun j h1 h2=>?_) _ _ _ _ ?_
 ·have h1:j<2:=h1
  rcases(show j=0\/j=1 by omega)with rfl | rfl
  ·exact SeqAt.EqAt.int_int n t1 m t2
  ·exact hz2
 ·refine⟨.bl _,H,I,rfl,q _ fun w=>hz1 ?_⟩
  rw[Bool.and_eq_true,List.all_eq_true]at w
  exact w.1 1 (List.mem_range.mpr (show 1<2 from by decide))
end
end L2
namespace K45
open PySem L2 PyProof.Rows
inductive spDoI(vs:List V)(H:Hp)(Q:VK):Prop where
 |mk (t:Addr) (n:Nat) (ties:List Tie) (h1:vs=[.ref t]) (h2:WebAt H t n ties) (h3:(∀ x∈ties,TieOk n x)) (h4:n<=30) (h5:∀ (l:Addr) (ord:List Int) (H':Hp),H l=none->H' l=some (.lst (ord.map V.int))->ord.Perm (upto n)->Same H H'->Q (.ref l) H')
noncomputable def spDo:Sp:=fun vs H Q _=>spDoI vs H Q
structure DoP(n:Nat)(fo wt:List Int):Prop where
 nd:fo.Nodup
 fin:∀ x∈fo,x∈upto n
 win:∀ x∈wt,x∈upto n
 all:∀ x∈upto n,x∈fo\/x∈wt
 len:wt.length<=30+fo.length * 60
theorem DoP.perm{n:Nat}{fo:List Int}(h:DoP n fo []):fo.Perm (upto n):=(List.perm_ext_iff_of_nodup h.nd (upto_nodup n)).mpr fun x=>⟨h.fin x,fun hx=>(h.all x hx).resolve_right (fun z=>nomatch z)⟩
theorem DoP.few{n:Nat}{fo wt:List Int}(h:DoP n fo wt):fo.length<=n:=by
 have:=nodup_le h.nd h.fin
 rwa [upto_length]at this
theorem DoP.less{n:Nat}{fo wt:List Int}{x:Int}(h:DoP n fo (wt++[x]))(hx:x∉fo):fo.length+1<=n:=by
 have:=nodup_le (l:=x :: fo) (m:=upto n) (List.nodup_cons.mpr ⟨hx,h.nd⟩) fun y hy=>by
  rcases List.mem_cons.mp hy with rfl | hy
  ·exact h.win _ (List.mem_append_right _ (List.mem_singleton.mpr rfl))
  ·exact h.fin y hy
 rwa [upto_length]at this
theorem DoP.old{n:Nat}{fo wt:List Int}{x:Int}(h:DoP n fo (wt++[x]))(hx:x∈fo):DoP n fo wt:=⟨h.nd,h.fin,fun y hy=>h.win y (List.mem_append_left _ hy),fun y hy=>by
 rcases h.all y hy with z | z
 ·exact .inl z
 ·rcases List.mem_append.mp z with z | z
  ·exact .inr z
  ·rw[List.mem_singleton.mp z];exact .inl hx,by have:=h.len;rw[List.length_append]at this;omega⟩
theorem DoP.new{n:Nat}{fo wt es:List Int}{x:Int}(h:DoP n fo (wt++[x]))(hx:x∉fo)(he:∀ y∈es,y∈upto n)(el:es.length<=60):DoP n (fo++[x]) (wt++es):=⟨List.nodup_append.mpr ⟨h.nd,List.nodup_cons.mpr ⟨List.not_mem_nil,List.nodup_nil⟩,fun a ha b hb e=>hx (by rw[<- List.mem_singleton.mp hb,<- e];exact ha)⟩,fun y hy=>by
 rcases List.mem_append.mp hy with z | z
 ·exact h.fin y z
 ·rw[List.mem_singleton.mp z];exact h.win x (List.mem_append_right _ (List.mem_singleton.mpr rfl)),fun y hy=>by
 rcases List.mem_append.mp hy with z | z
 ·exact h.win y (List.mem_append_left _ z)
 ·exact he y z,fun y hy=>by
 rcases h.all y hy with z | z
 ·exact .inl (List.mem_append_left _ z)
 ·rcases List.mem_append.mp z with z | z
  ·exact .inr (List.mem_append_left _ z)
  ·exact .inl (List.mem_append_right _ z),by have:=h.len;rw[List.length_append,List.length_singleton]at this;rw[List.length_append,List.length_append,List.length_singleton];omega⟩
noncomputable def DoI(n:Nat)(ties:List Tie)(t fl wl:Addr)(H:Hp)(m:Nat)(σ:L2.St)(G:Hp):Prop:=Ex3 fun(fo wt:List Int) (v3:Option V)=>m=(n-fo.length) * (ties.length+1)+wt.length/\σ=[some (.ref t),some (.ref fl),some (.ref wl),v3]/\Same H G/\G fl=some (.lst (fo.map V.int))/\G wl=some (.lst (wt.map V.int))/\DoP n fo wt
section
variable{P:Program}{w:World}{K:PySem.W.Frag}{mg:Str->Option Value}{base:Heap}
noncomputable abbrev nDo:List Str:=["_law_web","_law_found","_law_waiting","_law_place"]
theorem scDo:FnScope nDo ["_law_web"] (defScope sDeepOrder):=⟨rfl,rfl,rfl,by decide +kernel,rfl,by decide +kernel,by decide +kernel⟩
theorem csDo1:CompScope ["_law_a","_law_b","_law_weight_here","_law_place"] [none,none,none,some 3] nDo (defScope sDeepOrder) (scO [(".0",.local),("_law_a",.local),("_law_b",.local),("_law_weight_here",.local),("_law_place",.free)]):=⟨rfl,by decide +kernel,by decide +kernel,by decide +kernel,rfl,capB_ok (by decide +kernel)⟩
theorem ndDo1:(["_law_a","_law_b","_law_weight_here","_law_place"]:List Str).Nodup:=by decide +kernel
theorem ok_do{f:Addr}{fd:FuncData}(F:Fun K "_law_deep_order" "_law_deep_order" sDeepOrder f fd)(T:Txt mg):FnOk P w K mg base CX0 1 f fd ["_law_web"] spDo:=by
 refine F.ok scDo (fun vs H Q E h=>?_) (fun cdv A outer s H vs Q E hr h=>?_)
 ·obtain⟨t,n,ties,rfl,_⟩:=h
  rfl
 ·obtain⟨t,n,ties,rfl,W,ok,n30,fin⟩:=h
  have hu0:_<cLine:=Nat.lt_of_le_of_lt (Nat.le_add_right _ _) hr.units
  obtain⟨⟨ts,bs,h1,h2,h3⟩,len⟩:=id W
  have h3l:bs.length=ties.length:=h3.length
  refine⟨_,(pss_cons (ps_par (i:=1) (j:=2) rfl scDo.nd rfl rfl (by decide) rfl rfl (@pa_lst _ _ _ _ _ _ (@pe_lst _ _ _ _ pa_nil) (@pa_sub _ _ _ _ _ _ _ (pe_rev (pe_callTy (call_list_rng rfl) (by rfl) T.list boot_list (@pa_call _ _ _ _ _ _ _ _ (pe_callTy (call_range _) (by rfl) T.range boot_range (@pa_sub _ _ _ _ _ _ _ (@pe_ix _ _ _ _ _ _ _ ix_tupH (pv 0) pe_int (fun _ _=>rfl)) pa_nil)) pa_nil)) (pe_un un_neg pe_int)) pa_nil)) rfl)
   (pss_cons (ps_while PassesOwn.never (pt_cmpR (op_neL hu0) (pv 2) (@pe_lst _ _ _ _ pa_nil) (nomark _)) (pss_cons (ps_set (i:=3) scDo.nd rfl (Or.inr rfl) (pe_bm0H PySem.F.slot_list_pop PySem.F.type_list_pop mt_pop (pv 2)))
   (pss_one (ps_if (pt_cmpR op_notInH (pv 3) (pv 1) rfl) (pss_cons (ps_expr (pe_bmH PySem.F.slot_list_append PySem.F.type_list_append mt_append (pv 1) (@pa_nam _ _ _ _ _ _ (pv 3) pa_nil)))
   (pss_one (ps_expr (pe_bmH PySem.F.slot_list_extend PySem.F.type_list_extend mt_extend (pv 2) (@pa_comp _ _ _ _ _ _ _ _ (pe_comp rfl csDo1 (pi_tup (@pe_ix _ _ _ _ _ _ _ ix_tupH (pv 0) pe_int (fun _ _=>rfl))) (fun C s H fp=>(pg_tupK K rfl (n:=3) rfl (pgs_cons (pg_name (i:=0) ndDo1 rfl (Or.inl rfl)) (pgs_cons (pg_name (i:=1) ndDo1 rfl (Or.inl rfl)) (pgs_cons (pg_name (i:=2) ndDo1 rfl (Or.inl rfl)) pgs_nil))) rfl rfl)) (fun C s H fp=>(pf_one (pt_cmpR (op_inQ true) (pv 3) (@pe_tup _ _ _ _ _ (@pa_nam _ _ _ _ _ _ (pv 0) (@pa_nam _ _ _ _ _ _ (pv 1) pa_nil))) rfl))) (fun C s H fp=>(pe_ifExp (pt_cmpR op_eq (pv 0) (pv 3) (nomark _)) (pv 1) (pv 0)))) pa_nil))))) pss_nil))))
   (pss_one (ps_ret (pv 1))))),?_⟩
  refine⟨(by show 0<=sizeLine;decide),fun fl hfl=>?_⟩
  have sf:=Same.new (o:=.lst []) hfl
  refine⟨_,rfl,t,_,_,_,rfl,rfl,sf _ _ h1,at0,_,rfl,fun r hr=>⟨r,_,rfl,upd_same,by omega,by omega,fun so hso=>?_⟩⟩
  rw[show((n:Int)).toNat=n by omega]
  refine⟨_,rfl,so,_,rfl,rfl,SqL.of upd_same,fun wl hwl=>?_⟩
  rw[<- List.map_reverse]
  have s1:=sf.trans ((Same.new (o:=.rng 0 (n:Int)) hr).trans (Same.new (o:=.lst ((upto n).map V.int)) hso))
  have s2:=Same.new (o:=.lst ((upto n).reverse.map V.int)) hwl
  have gf:=s2 _ _ ((Same.new (o:=.lst ((upto n).map V.int)) hso) _ _ ((Same.new (o:=.rng 0 (n:Int)) hr) _ _ (show(upd H fl (.lst [])) fl=some (.lst (([]:List Int).map V.int))from upd_same)))
  have wl0:H wl=none:=s1.free hwl
  have nfw:fl≠wl:=fun z=>by
   have g0:=(Same.new (o:=.lst ((upto n).map V.int)) hso) _ _ ((Same.new (o:=.rng 0 (n:Int)) hr) _ _ (show(upd H fl (.lst [])) fl=some (.lst (([]:List Int).map V.int))from upd_same))
   have g1:=hwl
   rw[<- z,g0]at g1
   cases g1
  have s12:=s1.trans s2
  have gw:(upd (upd (upd (upd H fl (.lst [])) r (.rng 0 (n:Int))) so (.lst ((upto n).map V.int))) wl (.lst ((upto n).reverse.map V.int))) wl=some (.lst ((upto n).reverse.map V.int)):=upd_same
  generalize (upd (upd (upd (upd H fl (.lst [])) r (.rng 0 (n:Int))) so (.lst ((upto n).map V.int))) wl (.lst ((upto n).reverse.map V.int)))=H2 at s12 gf gw
  clear s1 s2 hwl hso hr sf
  refine⟨_,_,rfl,?_⟩
  refine⟨DoI n ties t fl wl H,⟨_,[],(upto n).reverse,none,rfl,rfl,s12,gf,gw,⟨List.nodup_nil,(fun _ h=>nomatch h),fun x hx=>List.mem_reverse.mp hx,fun x hx=>.inr (List.mem_reverse.mpr hx),by rw[List.length_reverse,upto_length];omega⟩⟩,?_⟩
  rintro m σ G ⟨fo,wt,v3,rfl,rfl,sG,gf,gw,dp⟩
  refine⟨_,rfl,(by show 0<=sizeLine;decide),fun e0 he0=>⟨wl,e0,wt,[],rfl,rfl,SqL.of (Same.new he0 _ _ gw),SqL.of upd_same,_,rfl,?_⟩⟩
  have se:=Same.new (o:=.lst []) he0
  have gf:=se _ _ gf
  have gw:=se _ _ gw
  have sG:=sG.trans se
  generalize (upd G e0 (.lst []))=G at gf gw sG
  clear se he0
  rcases List.eq_nil_or_concat wt with rfl |⟨w',v,rfl⟩
  ·refine iteF ⟨_,rfl,fin fl fo G hfl gf dp.perm sG⟩
  ·rw[List.concat_eq_append]at gw dp ⊢
   refine ite2 (fun _=>?_) (fun z=>absurd (by cases w' <;> rfl) z)
   refine⟨fun σ' H'=>∃ m',m' <(n-fo.length) * (ties.length+1)+(w'++[v]).length/\DoI n ties t fl wl H m' σ' H',fun _ _ h=>h,?_⟩
   have hlast:((w'++[v]).map V.int)[((w'++[v]).map V.int).length-1]?=some (V.int v):=by simp
   refine⟨_,rfl,⟨wl,_,rfl,gw⟩,wl,_,_,rfl,rfl,gw,hlast,?_⟩
   have dr:((w'++[v]).map V.int).dropLast=w'.map V.int:=by rw[List.map_append];exact List.dropLast_concat
   rw[dr]
   have sG1:Same H (upd G wl (.lst (w'.map V.int))):=same_put sG wl0
   have gf1:(upd G wl (.lst (w'.map V.int))) fl=some (.lst (fo.map V.int)):=by rw[upd_ne nfw];exact gf
   have gw1:(upd G wl (.lst (w'.map V.int))) wl=some (.lst (w'.map V.int)):=upd_same
   generalize (upd G wl (.lst (w'.map V.int)))=G1 at sG1 gf1 gw1
   clear sG gf gw hlast dr
   have fl30:=dp.few
   refine⟨_,rfl,_,rfl,fl,_,rfl,gf1,rfl,(by rw[List.all_map];exact List.all_eq_true.mpr fun _ _=>rfl),_,rfl,ite2 (fun h=>?_) (fun h=>?_)⟩
   ·have hv:v∉fo:=fun z=>by
     have h:(!inV (.int v) (fo.map V.int))=true:=h
     rw[inV_int.mpr z]at h
     cases h
    have less:=dp.less hv
    refine⟨_,rfl,⟨fl,_,rfl,gf1⟩,_,rfl,fl,_,_,rfl,rfl,gf1,(by rw[List.length_map,sizeLine_eq];omega),?_⟩
    have gf2:(upd G1 fl (.lst (fo.map V.int++[.int v]))) fl=some (.lst ((fo++[v]).map V.int)):=by rw[upd_same,List.map_append];rfl
    have gw2:(upd G1 fl (.lst (fo.map V.int++[.int v]))) wl=some (.lst (w'.map V.int)):=by rw[upd_ne (Ne.symm nfw)];exact gw1
    have sG2:Same H (upd G1 fl (.lst (fo.map V.int++[.int v]))):=same_put sG1 hfl
    generalize (upd G1 fl (.lst (fo.map V.int++[.int v])))=G2 at gf2 gw2 sG2
    refine⟨_,rfl,⟨wl,_,rfl,gw2⟩,_,rfl,t,_,_,_,rfl,rfl,sG2 _ _ h1,at1,ts,rfl,⟨_,SqT.of (sG2 _ _ h2)⟩,?_⟩
    refine comp_tup (K:=K) (a:=ts) (xs:=bs.map V.ref) (fun i zs G3=>Same G2 G3/\∃ es:List Int,zs=es.map V.int/\es.length<=i/\∀ y∈es,y∈upto n) (by rw[List.length_map,sizeLine_eq];omega) ⟨Same.refl _,[],rfl,Nat.le_refl _,(fun _ h=>nomatch h)⟩ (fun i zs G3 _ z=>SqT.of (z.1 _ _ (sG2 _ _ h2))) ?_ ?_
    ·rintro i x zs G3 hx ⟨s3,es,rfl,el,ei⟩
     obtain⟨il,e⟩:=List.getElem?_eq_some_iff.mp hx
     rw[List.length_map]at il
     rw[List.getElem_map]at e
     subst e
     have it:i<ties.length:=by omega
     have gx:=(sG2.trans s3) _ _ (Paired.at h3 i il it)
     obtain⟨o1,o2,o3,o4⟩:=ok _ (List.getElem_mem it)
     generalize ties[i]=x at *
     generalize bs[i]=bi at *
     obtain⟨a,b,c⟩:=x
     have o1:0<=a:=o1
     have o2:a<b:=o2
     have o3:b<n:=o3
     refine⟨bi,_,rfl,SqT.of gx,rfl,_,_,rfl,_,_,rfl,_,_,rfl,rfl,⟨rfl,trivial⟩,?_⟩
     refine⟨_,rfl,_,rfl,_,rfl,(by show 2<=sizeLine;decide),fun tp htp=>⟨tp,[.int a,.int b],rfl,upd_same,rfl,rfl,_,rfl,?_⟩⟩
     have s4:=s3.trans (Same.new (o:=.tup [.int a,.int b]) htp)
     refine ite2 (fun _=>?_) (fun _=>⟨s4,es,rfl,by omega,ei⟩)
     refine⟨_,rfl,_,rfl,rfl,_,rfl,ite2 (fun _=>?_) (fun _=>?_)⟩
     ·refine⟨_,rfl,s4,es++[b],by rw[List.map_append];rfl,by rw[List.length_append,List.length_singleton];omega,fun y hy=>?_⟩
      rcases List.mem_append.mp hy with z | z
      ·exact ei y z
      ·rw[List.mem_singleton.mp z];exact mem_upto'.mpr ⟨by omega,o3⟩
     ·refine⟨_,rfl,s4,es++[a],by rw[List.map_append];rfl,by rw[List.length_append,List.length_singleton];omega,fun y hy=>?_⟩
      rcases List.mem_append.mp hy with z | z
      ·exact ei y z
      ·rw[List.mem_singleton.mp z];exact mem_upto'.mpr ⟨o1,by omega⟩
    ·rintro zs G3 _ ⟨s3,es,rfl,el,ei⟩ D hD
     rw[List.length_map,h3l]at el
     have sD:=Same.new (o:=.lst (es.map V.int)) hD
     have s3D:=s3.trans sD
     have gw3:=s3D _ _ gw2
     have gf3:=s3D _ _ gf2
     have dpl:=dp.len
     rw[List.length_append,List.length_singleton]at dpl
     refine⟨wl,D,_,_,rfl,rfl,gw3,upd_same,by rw[List.length_map,List.length_map,sizeLine_eq];omega,?_⟩
     refine⟨_,?_,fo++[v],w'++es,_,rfl,rfl,same_put (sG2.trans s3D) wl0,by rw[upd_ne nfw];exact gf3,by rw[upd_same,List.map_append],dp.new hv ei (by omega)⟩
     rw[List.length_append,List.length_append,List.length_append,List.length_singleton]
     have e1:n-fo.length=(n-(fo.length+1))+1:=by omega
     rw[e1,Nat.succ_mul]
     omega
   ·have hv:v∈fo:=Decidable.byContradiction fun z=>h (by
     show(!inV (.int v) (fo.map V.int))=true
     rw[Bool.eq_false_iff.mpr fun y=>z (inV_int.mp y)]
     rfl)
    exact⟨_,by rw[List.length_append,List.length_singleton];exact Nat.lt_succ_self _,fo,w',_,rfl,rfl,sG1,gf1,gw1,dp.old hv⟩
end
open PySem L2 PyProof.Rows
theorem put_all{R:List Key->V->Prop}{kvs:List (List Key×V)}{k:List Key}{v:V}(h:∀ kv∈kvs,R kv.1 kv.2)(r:R k v):∀ kv∈putK kvs k v,R kv.1 kv.2:=fun kv hk=>by
 unfold putK at hk
 split at hk
 ·obtain⟨q,hq,e⟩:=List.mem_map.mp hk
  by_cases z:q.1=k
  ·rw[if_pos z]at e
   rw[<- e]
   show R q.1 v
   rw[z]
   exact r
  ·rw[if_neg z]at e
   rw[<- e]
   exact h q hq
 ·rcases List.mem_append.mp hk with z | z
  ·exact h kv z
  ·rw[List.mem_singleton.mp z]
   exact r
theorem putPs_all{R:List Key->V->Prop}:∀ {ps:List (List Key×Addr×V)}{kvs:List (List Key×V)},(∀ kv∈kvs,R kv.1 kv.2)->(∀ x∈ps,R x.1 x.2.2)->∀ kv∈ps.foldl (fun kvs x=>putK kvs x.1 x.2.2) kvs,R kv.1 kv.2
 |[],_,h,_=>h
 |x :: r,kvs,h,hp=>putPs_all (ps:=r) (kvs:=putK kvs x.1 x.2.2) (put_all h (hp x (List.mem_cons_self ..))) fun y hy=>hp y (List.mem_cons_of_mem _ hy)
noncomputable def TVal(G:Hp)(n:Nat)(k:List Key)(v:V):Prop:=∃ (c:Addr) (y:Tie),k=[Sum.inl y.1,Sum.inl y.2.1]/\v = .ref c/\G c=some (.tup (tieV y))/\TieOk n y
theorem TVal.to{G G':Hp}{n:Nat}{k:List Key}{v:V}(h:TVal G n k v)(s:∀ c xs,G c=some (.tup xs)->G' c=some (.tup xs)):TVal G' n k v:=by
 obtain⟨c,y,e1,e2,e3,e4⟩:=h
 exact⟨c,y,e1,e2,s _ _ e3,e4⟩
theorem tv_keys{G:Hp}{n:Nat}:∀ {kvs:List (List Key×V)},(∀ kv∈kvs,TVal G n kv.1 kv.2)->kvs.map (·.1)=List.map (List.map Sum.inl) (kvs.map fun kv=>unkey kv.1)
 |[],_=>rfl
 |kv :: kvs,h=>by
  obtain⟨c,y,e,_⟩:=h kv (List.mem_cons_self ..)
  rw[List.map_cons,List.map_cons,List.map_cons,tv_keys fun q hq=>h q (List.mem_cons_of_mem _ hq),e]
  rfl
structure WM(H:Hp)(p d:Addr)(n M c:Nat)(kvs:List (List Key×V))(G:Hp):Prop where
 box:BoxAt G p M
 dic:G d=some (.dT kvs)
 tv:∀ kv∈kvs,TVal G n kv.1 kv.2
 len:kvs.length<=c
 kep:Kept p H G
section
variable{H G G':Hp}{p d q:Addr}{n M M' c c':Nat}{kvs:List (List Key×V)}{o:HO}
theorem WM.keep(W:WM H p d n M c kvs G)(dp:d≠p)(k:Kept p G G')(B:BoxAt G' p M'):WM H p d n M' c kvs G' :=
 ⟨B,k d _ dp W.dic,fun kv hk=>(W.tv kv hk).to fun a xs e=>k a _ (fun z=>by
  obtain⟨x1,x2,x3,eb,_⟩:=W.box
  rw[z,eb]at e
  cases e) e,W.len,W.kep.trans k⟩
theorem WM.mono(W:WM H p d n M c kvs G)(h:M<=M')(h2:c<=c'):WM H p d n M' c' kvs G:=⟨W.box.mono h,W.dic,W.tv,Nat.le_trans W.len h2,W.kep⟩
theorem WM.new(W:WM H p d n M c kvs G)(h:G q=none):WM H p d n M c kvs (upd G q o) :=
 ⟨W.box.new h,Same.new h _ _ W.dic,fun kv hk=>(W.tv kv hk).to fun a xs e=>Same.new h _ _ e,W.len,W.kep.trans (Kept.new h)⟩
theorem WM.put(W:WM H p d n M c kvs G)(dp:d≠p)(hd:H d=none){a b x:Int}{u:Addr}(hu:G u=some (.tup (tieV (a,b,x))))(ok:TieOk n (a,b,x)):WM H p d n M (c+1) (putK kvs [Sum.inl a,Sum.inl b] (.ref u)) (upd G d (.dT (putK kvs [Sum.inl a,Sum.inl b] (.ref u)))):=by
 have st:∀ (e:Addr) (xs:List V),G e=some (.tup xs)->(upd G d (.dT (putK kvs [Sum.inl a,Sum.inl b] (.ref u)))) e=some (.tup xs):=fun e xs h=>by
  rw[upd_ne (ne_of h W.dic (by intro z;cases z))]
  exact h
 exact⟨W.box.put dp,upd_same,put_all (R:=TVal _ n) (fun kv hk=>(W.tv kv hk).to st) ⟨u,(a,b,x),rfl,rfl,st _ _ hu,ok⟩,Nat.le_trans (length_putK ..) (Nat.succ_le_succ W.len),W.kep.put hd⟩
end
inductive spWmI(vs:List V)(H:Hp)(Q:VK):Prop where
 |mk (p t:Addr) (n N:Nat) (ties:List Tie) (h1:vs=[.ref p,.ref t]) (h2:BoxAt H p N) (h3:N+100<2 ^ 40) (h4:1<=n) (h5:n<=30) (h6:WebAt H t n ties) (h7:(∀ x∈ties,TieOk n x)) (h8:ties.length<=50) (h9:∀ (t':Addr) (tl:List Tie) (H':Hp),WebAt H' t' n tl->(∀ x∈tl,TieOk n x)->BoxAt H' p (N+100)->Kept p H H'->Q (.ref t') H')
noncomputable def spWm:Sp:=fun vs H Q _=>spWmI vs H Q
section
variable{P:Program}{w:World}{K:PySem.W.Frag}{mg:Str->Option Value}{base:Heap}
noncomputable abbrev nWm:List Str:=["_law_box_here","_law_web","_law_ties","_law_turn","_law_one","_law_other","_law_pair"]
theorem scWm:FnScope nWm ["_law_box_here","_law_web"] (defScope sWithMore):=⟨rfl,rfl,rfl,by decide +kernel,rfl,by decide +kernel,by decide +kernel⟩
theorem csWm1:CompScope ["_law_tie"] [none] nWm (defScope sWithMore) (scO [(".0",.local),("_law_tie",.local)]):=⟨rfl,by decide +kernel,by decide +kernel,by decide +kernel,rfl,capB_ok (by decide +kernel)⟩
theorem ndWm1:(["_law_tie"]:List Str).Nodup:=by decide +kernel
theorem csWm2:CompScope ["_law_pair","_law_ties"] [none,some 2] nWm (defScope sWithMore) (scO [(".0",.local),("_law_pair",.local),("_law_ties",.free)]):=⟨rfl,by decide +kernel,by decide +kernel,by decide +kernel,rfl,capB_ok (by decide +kernel)⟩
theorem ndWm2:(["_law_pair","_law_ties"]:List Str).Nodup:=by decide +kernel
theorem ok_wm{f g g2:Addr}{fd gd gd2:FuncData}(F:Fun K "_law_with_more" "_law_with_more" sWithMore f fd)(T:Txt mg)(T2:Txt2 mg)(G:TakeF P w K mg base g gd)(W:WeightF P w K mg base g2 gd2):FnOk P w K mg base CX0 3 f fd ["_law_box_here","_law_web"] spWm:=by
 refine F.ok scWm (fun vs H Q E h=>?_) (fun cdv A outer s H vs Q E hr h=>?_)
 ·obtain⟨p,t,n,N,ties,rfl,_⟩:=h
  rfl
 ·obtain⟨p,t,n,N,ties,rfl,B,hN,n1,n30,WB,ok,tl,q⟩:=h
  obtain⟨⟨ts,bs,h1,h2,h3⟩,len⟩:=id WB
  have h3l:bs.length=ties.length:=h3.length
  have hu:=hu_of hr
  have hr1:Room 1 _:=hr.mono (by decide)
  have hr2:Room 2 _:=hr.mono (by decide)
  refine⟨_,(pss_cons (ps_set (i:=2) scWm.nd rfl (Or.inr rfl) (pe_callTy (call_dict_pairs rfl hr.units) (by rfl) T2.dict PyProof.Rows.boot_dict (@pa_comp _ _ _ _ _ _ _ _ (pe_comp rfl csWm1 (pi_tup (@pe_ix _ _ _ _ _ _ _ ix_tupH (pv 1) pe_int (fun _ _=>rfl))) (fun C s H fp=>(pg_name (i:=0) ndWm1 rfl (Or.inl rfl))) (fun C s H fp=>pf_nil) (fun C s H fp=>(@pe_tup _ _ _ _ _ (@pa_sub _ _ _ _ _ _ _ (pe_slice sl_tupA (pv 0) po_none (po_some pe_int)) (@pa_nam _ _ _ _ _ _ (pv 0) pa_nil))))) pa_nil)))
   (pss_cons (ps_for PassesOwn.never rfl (pi_range1 rfl T.range (@pa_call _ _ _ _ _ _ _ _ (pe_call G.ok hr1 rfl G.mg G.kp G.bd .nil pass0 (@pa_nam _ _ _ _ _ _ (pv 0) (@pa_cst _ _ _ _ _ _ _ pe_int pa_nil))) pa_nil)) (pg_name (i:=3) scWm.nd rfl (Or.inl rfl))
   (pss_cons (ps_par (i:=4) (j:=5) rfl scWm.nd rfl rfl (by decide) rfl rfl (@pa_call _ _ _ _ _ _ _ _ (pe_call G.ok hr1 rfl G.mg G.kp G.bd .nil pass0 (@pa_nam _ _ _ _ _ _ (pv 0) (@pa_sub _ _ _ _ _ _ _ (@pe_ix _ _ _ _ _ _ _ ix_tupH (pv 1) pe_int (fun _ _=>rfl)) pa_nil))) (@pa_call _ _ _ _ _ _ _ _ (pe_call G.ok hr1 rfl G.mg G.kp G.bd .nil pass0 (@pa_nam _ _ _ _ _ _ (pv 0) (@pa_sub _ _ _ _ _ _ _ (@pe_ix _ _ _ _ _ _ _ ix_tupH (pv 1) pe_int (fun _ _=>rfl)) pa_nil))) pa_nil)) rfl)
   (pss_one (ps_if (pt_cmpR op_ne (pv 4) (pv 5) (nomark _)) (pss_cons (ps_set (i:=6) scWm.nd rfl (Or.inl rfl) (@pe_tup _ _ _ _ _ (@pa_call _ _ _ _ _ _ _ _ (pe_callB (call_min2 rfl) (by rfl) T.min boot_min (@pa_nam _ _ _ _ _ _ (pv 4) (@pa_nam _ _ _ _ _ _ (pv 5) pa_nil))) (@pa_call _ _ _ _ _ _ _ _ (pe_callB (call_max2 rfl) (by rfl) T.max boot_max (@pa_nam _ _ _ _ _ _ (pv 4) (@pa_nam _ _ _ _ _ _ (pv 5) pa_nil))) pa_nil))))
   (pss_one (ps_dput hu (pv 2) (pv 6) (pe_op op_catT (pv 6) (@pe_tup _ _ _ _ _ (@pa_call _ _ _ _ _ _ _ _ (pe_call W.ok hr2 rfl W.mg W.kp W.bd .nil pass0 (@pa_nam _ _ _ _ _ _ (pv 0) (@pa_cst _ _ _ _ _ _ _ pe_int pa_nil))) pa_nil))) rfl))) pss_nil))))
   (pss_one (ps_ret (@pe_tup _ _ _ _ _ (@pa_sub _ _ _ _ _ _ _ (@pe_ix _ _ _ _ _ _ _ ix_tupH (pv 1) pe_int (fun _ _=>rfl)) (@pa_call _ _ _ _ _ _ _ _ (pe_callTy call_tupleH (by rfl) T.tuple boot_tuple (@pa_comp _ _ _ _ _ _ _ _ (pe_comp rfl csWm2 (pi_list (pe_callB (call_sortedD rfl) (by rfl) T.sorted boot_sorted (@pa_nam _ _ _ _ _ _ (pv 2) pa_nil))) (fun C s H fp=>(pg_name (i:=0) ndWm2 rfl (Or.inl rfl))) (fun C s H fp=>pf_nil) (fun C s H fp=>(pe_dget hu (pv 1) (pv 0) (fun _ _=>rfl)))) pa_nil)) pa_nil))))))),?_⟩
  refine⟨_,rfl,t,_,_,_,rfl,rfl,h1,at1,ts,rfl,⟨_,SqT.of h2⟩,?_⟩
  refine comp_tup (K:=K) (a:=ts) (xs:=bs.map V.ref) (fun i ys G=>Same H G/\∃ (cs:List Addr) (ps:List (List Key×Addr×V)),ys=cs.map V.ref/\ps.length=i/\(∀ x∈ps,TVal G n x.1 x.2.2)/\Paired (fun b (x:List Key×Addr×V)=>G b=some (.tup [.ref x.2.1,x.2.2])/\G x.2.1=some (.tup (x.1.map kV))) cs ps) (by rw[List.length_map,sizeLine_eq];omega) ⟨Same.refl _,[],[],rfl,rfl,(fun _ h=>nomatch h),.nil⟩ (fun i ys G _ z=>SqT.of (z.1 _ _ h2)) ?_ ?_
  ·rintro i x ys G hx ⟨sm,cs,ps,rfl,pl,tv,pc⟩
   obtain⟨il,e⟩:=List.getElem?_eq_some_iff.mp hx
   rw[List.length_map]at il
   rw[List.getElem_map]at e
   subst e
   have it:i<ties.length:=by omega
   have hx0:=sm _ _ (Paired.at h3 i il it)
   refine⟨trivial,tTru_if ⟨_,rfl,2,rfl,bs[i],_,rfl,hx0,fun pp G2 s1 hpp=>⟨_,rfl,(by show 2<=sizeLine;decide),fun b hb=>?_⟩⟩⟩
   have s2:=Same.new (o:=.tup [.ref pp,.ref bs[i]]) hb
   refine⟨sm.trans (s1.trans s2),cs++[b],ps++[((pairOf ties[i]).map Sum.inl,pp,.ref bs[i])],by rw[List.map_append];rfl,by rw[List.length_append,pl];rfl,fun x hx=>?_,Paired.snoc (Paired.mapP pc fun c x z=>⟨(s1.trans s2) _ _ z.1,(s1.trans s2) _ _ z.2⟩) ⟨upd_same,s2 _ _ hpp⟩⟩
   rcases List.mem_append.mp hx with hx | hx
   ·exact(tv x hx).to fun c xs e=>(s1.trans s2) _ _ e
   ·rw[List.mem_singleton.mp hx]
    exact⟨bs[i],ties[i],rfl,rfl,(s1.trans s2) _ _ hx0,ok _ (List.getElem_mem it)⟩
  rintro ys G yl ⟨sm,cs,ps,rfl,pl,tv,pc⟩ D hD
  rw[List.length_map]at pl
  have sD:=Same.new (o:=.lst (cs.map V.ref)) hD
  refine⟨D,cs,ps,rfl,SqL.of upd_same,Paired.mapP pc fun c x z=>⟨sD _ _ z.1,sD _ _ z.2⟩,by rw[sizeLine_eq];omega,fun d hd=>?_⟩
  have sd:=Same.new (o:=.dT (putPs ps)) hd
  have s3:=sm.trans (sD.trans sd)
  have gd:(upd (upd G D (.lst (cs.map V.ref))) d (.dT (putPs ps))) d=some (.dT (putPs ps)):=upd_same
  have tv3:∀ kv∈putPs ps,TVal (upd (upd G D (.lst (cs.map V.ref))) d (.dT (putPs ps))) n kv.1 kv.2:=putPs_all (R:=TVal _ n) (ps:=ps) (kvs:=[]) (fun _ h=>nomatch h) fun x hx=>(tv x hx).to fun c xs e=>(sD.trans sd) _ _ e
  have pk:(putPs ps).length<=50:=by
   have:=putPs_len ps []
   simp only[List.length_nil]at this
   show(ps.foldl (fun kvs x=>putK kvs x.1 x.2.2) []).length<=50
   omega
  have hd0:H d=none:=sm.free (sD.free hd)
  have dp:d≠p:=B.ne hd0
  have W3:WM H p d n N 50 (putPs ps) (upd (upd G D (.lst (cs.map V.ref))) d (.dT (putPs ps))):=⟨B.same s3,gd,tv3,pk,fun b o _ e=>s3 b o e⟩
  generalize (upd (upd G D (.lst (cs.map V.ref))) d (.dT (putPs ps)))=H3 at W3
  clear sD sd hD hd pc tv sm yl gd tv3 pk s3
  generalize putPs ps=kvs at W3
  have nt:∀ {G:Hp},Kept p H G->WebAt G t n ties:=fun k=>WB.kept B k
  refine⟨_,rfl,p,4,N,rfl,W3.box,by omega,by decide,by decide,fun z H4 z0 z1 B4 k4=>⟨z,rfl,by omega,by omega,?_⟩⟩
  have W4:=W3.keep dp k4 B4
  have tn3:z.toNat<=3:=by omega
  generalize z.toNat=tn at tn3
  refine for_range (lo:=0) (n:=tn) (fun j σ G=>∃ (kvs:List (List Key×V)) (v3 v4 v5 v6:Option V),σ=[some (.ref p),some (.ref t),some (.ref d),v3,v4,v5,v6]/\WM H p d n (N+1+10 * j) (50+j) kvs G) ⟨kvs,_,_,_,_,rfl,W4⟩ ?_ ?_
  ·clear W4 W3 k4 B4
   rintro j σ G hj ⟨kvs,v3,v4,v5,v6,rfl,W⟩
   have wl:=W.len
   obtain⟨⟨us,vs,g1,_,_⟩,_⟩:=nt W.kep
   refine⟨_,rfl,_,rfl,t,_,_,_,rfl,rfl,g1,at0,p,n,_,rfl,W.box,by omega,by omega,by omega,fun x G1 x0 x1 B1 k1=>?_⟩
   have W1:=W.keep dp k1 B1
   obtain⟨⟨us,vs,g1,_,_⟩,_⟩:=nt W1.kep
   refine⟨_,rfl,_,rfl,t,_,_,_,rfl,rfl,g1,at0,p,n,_,rfl,W1.box,by omega,by omega,by omega,fun y G2 y0 y1 B2 k2=>⟨_,_,rfl,?_⟩⟩
   have W2:=W1.keep dp k2 B2
   clear W1 W k1 k2 B1 B2 g1
   refine⟨_,rfl,_,rfl,rfl,_,rfl,?_⟩
   refine ite2 (fun hxy=>?_) (fun _=>?_)
   ·have xy:x≠y:=fun z=>by rw[z]at hxy;simp at hxy
    refine⟨_,rfl,_,rfl,_,_,rfl,_,rfl,_,rfl,_,_,rfl,(by show 2<=sizeLine;decide),fun tp htp=>?_⟩
    have W3:=W2.new (o:=.tup [.int (if y<x then y else x),.int (if y > x then y else x)]) htp
    have g3:(upd G2 tp (.tup [.int (if y<x then y else x),.int (if y > x then y else x)])) tp=some (.tup [.int (if y<x then y else x),.int (if y > x then y else x)]):=upd_same
    generalize (upd G2 tp (.tup [.int (if y<x then y else x),.int (if y > x then y else x)]))=G3 at W3 g3
    have tpp:tp≠p:=fun z=>by
     obtain⟨a1,a2,a3,eb,_⟩:=W3.box
     rw[z,eb]at g3
     cases g3
    refine⟨_,rfl,_,rfl,p,2,_,rfl,by decide,W3.box,by omega,fun c G4 c1 B4 k4=>⟨(by show 1<=sizeLine;decide),fun one h1'=>?_⟩⟩
    have W4:=(W3.keep dp k4 B4).new (o:=.tup [.int c]) h1'
    have so:=Same.new (o:=.tup [.int c]) h1'
    have g4:=so _ _ (k4 _ _ tpp g3)
    refine⟨tp,one,[.int (if y<x then y else x),.int (if y > x then y else x)],[.int c],rfl,rfl,SqT.of g4,SqT.of upd_same,(fun z=>nomatch z),(by show 3<=sizeLine;decide),(fun z=>nomatch z),fun _ nt hnt=>?_⟩
    have W5:=W4.new (o:=.tup ([.int (if y<x then y else x),.int (if y > x then y else x)]++[.int c])) hnt
    have g5:=Same.new (o:=.tup ([.int (if y<x then y else x),.int (if y > x then y else x)]++[.int c])) hnt _ _ g4
    refine⟨_,rfl,_,rfl,d,_,rfl,DPut.t (k:=[Sum.inl (if y<x then y else x),Sum.inl (if y > x then y else x)]) (v:=.ref nt) W5.dic g5 (by rw[sizeLine_eq];omega),?_⟩
    refine⟨_,_,_,_,_,rfl,(W5.put dp hd0 (a:=if y<x then y else x) (b:=if y > x then y else x) (x:=c) upd_same ⟨?_,?_,?_,c1⟩).mono (by omega) (by omega)⟩
    ·show(0:Int)<=if y<x then y else x
     split <;> omega
    ·show(if y<x then y else x) <(if y > x then y else x)
     split <;> split <;> omega
    ·show(if y > x then y else x) <(n:Int)
     split <;> omega
   ·exact⟨_,_,_,_,_,rfl,W2.mono (by omega) (by omega)⟩
  ·clear W4 W3 k4 B4
   rintro σ G ⟨kvs,v3,v4,v5,v6,rfl,W⟩
   have wl:=W.len
   obtain⟨⟨us,vs,g1,_,_⟩,_⟩:=nt W.kep
   obtain⟨B6,gd6,tv6,pk6,k6⟩:=id W
   refine⟨_,rfl,t,_,_,_,rfl,rfl,g1,at0,_,rfl,d,kvs,kvs.map (fun kv=>unkey kv.1),rfl,gd6,tv_keys tv6,fun k hk=>?_,by omega,fun l as ns hl perm pw pt=>⟨l,rfl,⟨_,SqL.of upd_same⟩,?_⟩⟩
   ·obtain⟨kv,hkv,rfl⟩:=List.mem_map.mp hk
    obtain⟨c,y,e,_⟩:=tv6 kv hkv
    rw[e]
    exact fun z=>nomatch z
   have sl:=Same.new (o:=.lst (as.map V.ref)) hl
   have lenA:as.length=ns.length:=pt.length
   have lenN:ns.length=kvs.length:=by rw[perm.length_eq,List.length_map]
   have keyAt:∀ i (h1:i<as.length),∃ (c:Addr) (y:Tie),G as[i]=some (.tup [.int y.1,.int y.2.1])/\valV kvs [Sum.inl y.1,Sum.inl y.2.1]=some (V.ref c)/\G c=some (.tup (tieV y))/\TieOk n y:=fun i h1=>by
    have h2:i<ns.length:=by omega
    have e1:=Paired.at pt i h1 h2
    have m1:ns[i]∈kvs.map (fun kv=>unkey kv.1):=perm.mem_iff.mp (List.getElem_mem h2)
    obtain⟨kv,hkv,e2⟩:=List.mem_map.mp m1
    obtain⟨c0,y0,e3,_⟩:=tv6 kv hkv
    rw[e3]at e2
    have e4:ns[i]=[y0.1,y0.2.1]:=e2.symm
    rw[e4]at e1
    have m2:[Sum.inl y0.1,Sum.inl y0.2.1]∈kvs.map (·.1):=List.mem_map.mpr ⟨kv,hkv,e3⟩
    obtain⟨v,v1,v2⟩:=valV_mem m2
    obtain⟨c,y,e5,e6,e7,e8⟩:=tv6 _ v2
    have e6:v = .ref c:=e6
    have e5:[Sum.inl y0.1,Sum.inl y0.2.1]=[(Sum.inl y.1:Key),Sum.inl y.2.1]:=e5
    injection e5 with e9 e10
    injection e9 with e9
    injection e10 with e10 _
    injection e10 with e10
    rw[e9,e10]at e1 v1
    rw[e6]at v1
    exact⟨c,y,e1,v1,e7,e8⟩
   refine comp_list (K:=K) (a:=l) (xs:=as.map V.ref) (fun i ys G'=>G'=(upd G l (.lst (as.map V.ref)))/\∃ (bs:List Addr) (tl:List Tie),ys=bs.map V.ref/\Paired (fun b x=>G b=some (.tup (tieV x))) bs tl/\(∀ x∈tl,TieOk n x)/\tl.length=i) (by rw[List.length_map,sizeLine_eq];omega) ⟨rfl,[],[],rfl,.nil,(fun _ h=>nomatch h),rfl⟩ (fun i ys G' _ pp=>by rw[pp.1];exact SqL.of upd_same) ?_ ?_
   ·rintro i x ys G' hi ⟨rfl,bs',tl',rfl,pr',oks,tl2⟩
    obtain⟨il,e⟩:=List.getElem?_eq_some_iff.mp hi
    rw[List.length_map]at il
    rw[List.getElem_map]at e
    subst e
    obtain⟨c,y,ha,hv,hc,hok⟩:=keyAt i il
    have g0:DGet (upd G l (.lst (as.map V.ref))) d (V.ref as[i]) (valV kvs [Sum.inl y.1,Sum.inl y.2.1]):=DGet.t (k:=[Sum.inl y.1,Sum.inl y.2.1]) (sl _ _ gd6) (sl _ _ ha)
    rw[hv]at g0
    refine⟨⟨rfl,trivial⟩,tTru_if ⟨_,rfl,_,rfl,d,_,rfl,g0,rfl,bs'++[c],tl'++[y],by rw[List.map_append];rfl,Paired.snoc pr' hc,fun x hx=>?_,by rw[List.length_append,tl2];rfl⟩⟩
    rcases List.mem_append.mp hx with z | z
    ·exact oks x z
    ·rw[List.mem_singleton.mp z];exact hok
   ·rintro ys G' yl ⟨rfl,bs',tl',rfl,pr',oks,tl2⟩ D2 hD2
    rw[List.length_map]at tl2
    refine⟨D2,_,rfl,upd_same,fun ts2 hts2=>⟨(by show 2<=sizeLine;decide),fun t2 ht2=>?_⟩⟩
    have s1:=Same.new (o:=.lst (bs'.map V.ref)) hD2
    have s2:=Same.new (o:=.tup (bs'.map V.ref)) hts2
    have s3':=Same.new (o:=.tup [.int (n:Int),.ref ts2]) ht2
    have s4:=sl.trans (s1.trans (s2.trans s3'))
    exact q t2 tl' _ ⟨⟨ts2,bs',upd_same,s3' _ _ upd_same,Paired.mapP pr' fun b x e=>s4 _ _ e⟩,by omega⟩ oks ((B6.same s4).mono (by omega)) (k6.trans fun b o _ e=>s4 b o e)
end
open PySem L2 PyProof.Rows
theorem small_of{n k:Nat}{ps:List (Int×Int)}{ord:List Int}{m:Int}(k1:1<=k)(n1:1<=n)(ol:ord.length=n)(mx:∀ a∈lens ps ord,a<=m)(h:((k:Nat):Int) ^ m.toNat * (n:Int)<=700):∀ i,i<n->k ^ (openAt ps ord i).length<=700:=fun i hi=>by
 have a:=mx _ (lens_at (ps:=ps) (ord:=ord) (a:=i) (by rw[ol];exact hi))
 have e:(openAt ps ord i).length<=m.toNat:=by omega
 have p:k ^ (openAt ps ord i).length<=k ^ m.toNat:=Nat.pow_le_pow_right k1 e
 have c:k ^ m.toNat * n<=700:=by
  have:=h
  rw[<- Int.natCast_pow,<- Int.natCast_mul]at this
  omega
 exact Nat.le_trans p (Nat.le_trans (Nat.le_mul_of_pos_right _ n1) c)
theorem max_few{ps:List (Int×Int)}{ord:List Int}{m:Int}(h:m∈lens ps ord):0<=m/\m<=ord.length:=by
 obtain⟨a,_,rfl⟩:=lens_of h
 have:(openAt ps ord a).length<=(ord.take (a+1)).length:=List.length_filter_le ..
 rw[List.length_take]at this
 omega
noncomputable def OrdAt(G:Hp)(p:Addr)(n:Nat)(a:Addr):Prop:=a≠p/\∃ ord:List Int,G a=some (.lst (ord.map V.int))/\ord.Perm (upto n)
noncomputable def OrdS(G:Hp)(p:Addr)(n k:Nat)(ps:List (Int×Int))(a:Addr):Prop:=a≠p/\∃ ord:List Int,G a=some (.lst (ord.map V.int))/\ord.Perm (upto n)/\∀ i,i<n->k ^ (openAt ps ord i).length<=700
inductive spOdI(vs:List V)(H:Hp)(Q:VK):Prop where
 |mk (p t q:Addr) (n N:Nat) (ties:List Tie) (ps:List Int) (h1:vs=[.ref p,.ref t,.ref q]) (h2:BoxAt H p N) (h3:N+300<2 ^ 40) (h4:1<=n) (h5:n<=30) (h6:WebAt H t n ties) (h7:(∀ x∈ties,TieOk n x)) (h8:H q=some (.lst (ps.map V.int))) (h9:q≠p) (h10:1<=ps.length) (h11:ps.length<=6) (h12:∀ (l:Addr) (as:List Addr) (H':Hp),H' l=some (.lst (as.map V.ref))->l≠p->as.length<=2->(∀ a∈as,OrdS H' p n ps.length (prs ties) a)->BoxAt H' p (N+300)->Kept p H H'->Q (.ref l) H')
noncomputable def spOd:Sp:=fun vs H Q _=>spOdI vs H Q
structure Fs(P:Program)(w:World)(K:PySem.W.Frag)(mg:Str->Option Value)(base:Heap)(g1 g2 g3 g4:Addr)(d1 d2 d3 d4:FuncData):Prop where
 deep:CalF P w K mg base 1 "_law_deep_order" ["_law_web"] spDo g1 d1
 ord:CalF P w K mg base 2 "_law_order" ["_law_box_here","_law_web"] spOr g2 d2
 pw:CalF P w K mg base 1 "_law_power" ["_law_one","_law_many_here"] spPw g3 d3
 ws:CalF P w K mg base 1 "_law_widths" ["_law_web","_law_order_here"] spWs g4 d4
section
variable{P:Program}{w:World}{K:PySem.W.Frag}{mg:Str->Option Value}{base:Heap}
noncomputable abbrev nOd:List Str:=["_law_box_here","_law_web","_law_posts_here","_law_some","_law_found","_law_order_here"]
theorem scOd:FnScope nOd ["_law_box_here","_law_web","_law_posts_here"] (defScope sOrders):=⟨rfl,rfl,rfl,by decide +kernel,rfl,by decide +kernel,by decide +kernel⟩
theorem csOd1:CompScope ["_law_turn","_law_box_here","_law_web"] [none,some 0,some 1] nOd (defScope sOrders) (scO [(".0",.local),("_law_turn",.local),("_law_order",.globalImplicit),("_law_box_here",.free),("_law_web",.free)]):=⟨rfl,by decide +kernel,by decide +kernel,by decide +kernel,rfl,capB_ok (by decide +kernel)⟩
theorem ndOd1:(["_law_turn","_law_box_here","_law_web"]:List Str).Nodup:=by decide +kernel
theorem ok_od{f g1 g2 g3 g4:Addr}{fd d1 d2 d3 d4:FuncData}(F:Fun K "_law_orders" "_law_orders" sOrders f fd)(T:Txt mg)(S:Fs P w K mg base g1 g2 g3 g4 d1 d2 d3 d4):FnOk P w K mg base CX0 3 f fd ["_law_box_here","_law_web","_law_posts_here"] spOd:=by
 refine F.ok scOd (fun vs H Q E h=>?_) (fun cdv A outer s H vs Q E hr h=>?_)
 ·obtain⟨p,t,q,n,N,ties,ps,rfl,_⟩:=h
  rfl
 ·obtain⟨p,t,q,n,N,ties,ps,rfl,B,hN,n1,n30,W,ok,gq,qp,p1,p6,fin⟩:=h
  have hu:=hu_of hr
  have hr1:Room 1 _:=hr.mono (by decide)
  have hr2:Room 2 _:=hr.mono (by decide)
  refine⟨_,(pss_cons (ps_set (i:=3) scOd.nd rfl (Or.inl rfl) (pe_op op_cat (@pe_lst _ _ _ _ (@pa_call _ _ _ _ _ _ _ _ (pe_call S.deep.ok hr1 rfl S.deep.mg S.deep.kp S.deep.bd .nil pass0 (@pa_nam _ _ _ _ _ _ (pv 1) pa_nil)) (@pa_call _ _ _ _ _ _ _ _ (pe_callTy (call_list_rng rfl) (by rfl) T.list boot_list (@pa_call _ _ _ _ _ _ _ _ (pe_callTy (call_range _) (by rfl) T.range boot_range (@pa_sub _ _ _ _ _ _ _ (@pe_ix _ _ _ _ _ _ _ ix_tupH (pv 1) pe_int (fun _ _=>rfl)) pa_nil)) pa_nil)) pa_nil))) (pe_comp rfl csOd1 (pi_range1 rfl T.range (@pa_cst _ _ _ _ _ _ _ pe_int pa_nil)) (fun C s H fp=>(pg_name (i:=0) ndOd1 rfl (Or.inl rfl))) (fun C s H fp=>pf_nil) (fun C s H fp=>(pe_call S.ord.ok hr2 rfl S.ord.mg S.ord.kp S.ord.bd .nil pass0 (@pa_nam _ _ _ _ _ _ (pv 1) (@pa_nam _ _ _ _ _ _ (pv 2) pa_nil)))))))
   (pss_cons (ps_set (i:=4) scOd.nd rfl (Or.inl rfl) (@pe_lst _ _ _ _ pa_nil))
   (pss_cons (ps_for PassesOwn.never rfl (pi_list (pv 3)) (pg_name (i:=5) scOd.nd rfl (Or.inl rfl))
   (pss_one (ps_if (PW.pt (pw_and (pt_cmpR (op_ninL hu) (pv 5) (pv 4) rfl) (pw_and1 (pt_cmpR op_le (pe_op op_mul (pe_call S.pw.ok hr1 rfl S.pw.mg S.pw.kp S.pw.bd .nil pass0 (@pa_call _ _ _ _ _ _ _ _ (pe_callB call_lenH (by rfl) T.len PySem.boot_len (@pa_nam _ _ _ _ _ _ (pv 2) pa_nil)) (@pa_call _ _ _ _ _ _ _ _ (pe_callB (call_maxLH rfl) (by rfl) T.max boot_max (@pa_call _ _ _ _ _ _ _ _ (pe_call S.ws.ok hr1 rfl S.ws.mg S.ws.kp S.ws.bd .nil pass0 (@pa_nam _ _ _ _ _ _ (pv 1) (@pa_nam _ _ _ _ _ _ (pv 5) pa_nil))) pa_nil)) pa_nil))) (@pe_ix _ _ _ _ _ _ _ ix_tupH (pv 1) pe_int (fun _ _=>rfl))) pe_int (nomark _))))) (pss_one (ps_expr (pe_bmH PySem.F.slot_list_append PySem.F.type_list_append mt_append (pv 4) (@pa_nam _ _ _ _ _ _ (pv 5) pa_nil)))) pss_nil)))
   (pss_one (ps_ret (pe_slice sl_list (pv 4) po_none (po_some pe_int))))))),?_⟩
  refine⟨_,rfl,t,n,ties,rfl,W,ok,n30,fun dl od0 H1 hdl gdl pm0 s1=>?_⟩
  obtain⟨⟨us,vs,g1,_,_⟩,_⟩:=W.same s1
  refine⟨_,rfl,t,_,_,_,rfl,rfl,g1,at0,_,rfl,fun r hr=>⟨r,_,rfl,upd_same,by omega,by omega,fun so hso=>⟨(by show 2<=sizeLine;decide),fun l1 hl1=>?_⟩⟩⟩
  rw[show((n:Int)).toNat=n by omega]at hl1 ⊢
  have sr:=(Same.new (o:=.rng 0 (n:Int)) hr).trans (Same.new (o:=.lst ((upto n).map V.int)) hso)
  have sl:=Same.new (o:=.lst [.ref dl,.ref so]) hl1
  have s4:=s1.trans (sr.trans sl)
  have gd:=(sr.trans sl) _ _ gdl
  have gs:=sl _ _ (show(upd (upd H1 r (.rng 0 (n:Int))) so (.lst ((upto n).map V.int))) so=some (.lst ((upto n).map V.int))from upd_same)
  have so0:H so=none:=(s1.trans (Same.new (o:=.rng 0 (n:Int)) hr)).free hso
  have l10:H l1=none:=(s1.trans sr).free hl1
  have gl:(upd (upd (upd H1 r (.rng 0 (n:Int))) so (.lst ((upto n).map V.int))) l1 (.lst [.ref dl,.ref so])) l1=some (.lst ([dl,so].map V.ref)):=upd_same
  generalize (upd (upd (upd H1 r (.rng 0 (n:Int))) so (.lst ((upto n).map V.int))) l1 (.lst [.ref dl,.ref so]))=H4 at s4 gd gs gl
  clear sr sl hl1 hso hr s1 gdl g1
  have dp:dl≠p:=B.ne hdl
  have sp:so≠p:=B.ne so0
  have lp:l1≠p:=B.ne l10
  have B4:=B.same s4
  refine⟨4,rfl,by decide,by decide,?_⟩
  refine comp_range (lo:=0) (n:=4) (fun j ys G=>BoxAt G p (N+40 * j)/\Kept p H4 G/\∃ as:List Addr,ys=as.map V.ref/\as.length<=j/\∀ a∈as,OrdAt G p n a) (by decide) ⟨B4,Kept.refl,[],rfl,Nat.le_refl _,(fun _ h=>nomatch h)⟩ ?_ ?_
  ·rintro j ys G hj ⟨BG,kG,as,rfl,al,oa⟩
   refine⟨⟨rfl,rfl,trivial⟩,tTru_if ⟨_,rfl,_,rfl,p,t,n,_,ties,rfl,BG,by omega,n1,n30,(W.same s4).kept B4 kG,fun l ord G2 hl gl lp pm B2 k2=>?_⟩⟩
   refine⟨B2.mono (by omega),kG.trans k2,as++[l],by rw[List.map_append];rfl,by rw[List.length_append,List.length_singleton];omega,fun a ha=>?_⟩
   rcases List.mem_append.mp ha with z | z
   ·obtain⟨ap,o,ga,pa⟩:=oa a z
    exact⟨ap,o,k2 _ _ ap ga,pa⟩
   ·rw[List.mem_singleton.mp z]
    exact⟨lp,ord,gl,pm⟩
  rintro ys G _ ⟨BG,kG,as,rfl,al,oa⟩ D hD
  have sD:=Same.new (o:=.lst (as.map V.ref)) hD
  refine⟨l1,D,_,_,rfl,rfl,sD _ _ (kG _ _ lp gl),upd_same,by rw[List.length_map,List.length_map,sizeLine_eq];simp;omega,fun sm hsm=>?_⟩
  rw[<- List.map_append]
  have ss:=Same.new (o:=.lst (([dl,so]++as).map V.ref)) hsm
  have sDs:=sD.trans ss
  have o5:∀ a∈[dl,so]++as,OrdAt (upd (upd G D (.lst (as.map V.ref))) sm (.lst (([dl,so]++as).map V.ref))) p n a:=fun a ha=>by
   rcases List.mem_append.mp ha with z | z
   ·rcases List.mem_cons.mp z with e | z
    ·rw[e];exact⟨dp,od0,sDs _ _ (kG _ _ dp gd),pm0⟩
    ·rw[List.mem_singleton.mp z];exact⟨sp,_,sDs _ _ (kG _ _ sp gs),.refl _⟩
   ·obtain⟨ap,o,ga,pa⟩:=oa a z
    exact⟨ap,o,sDs _ _ ga,pa⟩
  have g5:(upd (upd G D (.lst (as.map V.ref))) sm (.lst (([dl,so]++as).map V.ref))) sm=some (.lst (([dl,so]++as).map V.ref)):=upd_same
  have B5:BoxAt (upd (upd G D (.lst (as.map V.ref))) sm (.lst (([dl,so]++as).map V.ref))) p (N+200):=(BG.same sDs).mono (by omega)
  have k5:Kept p H (upd (upd G D (.lst (as.map V.ref))) sm (.lst (([dl,so]++as).map V.ref))):=Kept.trans (H':=H4) (fun b o _ e=>s4 b o e) (kG.trans fun b o _ e=>sDs b o e)
  generalize (upd (upd G D (.lst (as.map V.ref))) sm (.lst (([dl,so]++as).map V.ref)))=H5 at o5 g5 B5 k5
  have bl:([dl,so]++as).length<=6:=by rw[List.length_append];simp;omega
  generalize [dl,so]++as=bs at o5 g5 bl
  clear sD ss sDs hD hsm oa kG BG gl gd gs s4 B4 G
  have W5:=W.kept B k5
  have gq5:=k5 _ _ qp gq
  refine⟨(by show 0<=sizeLine;decide),fun fl hfl=>?_⟩
  have sf:=Same.new (o:=.lst []) hfl
  refine⟨_,rfl,sm,rfl,⟨_,SqL.of (sf _ _ g5)⟩,?_⟩
  refine for_list (K:=K) (a:=sm) (xs:=bs.map V.ref) (fun i σ G=>∃ (fs:List Addr) (v5:Option V),σ=[some (.ref p),some (.ref t),some (.ref q),some (.ref sm),some (.ref fl),v5]/\Same H5 G/\G fl=some (.lst (fs.map V.ref))/\fs.length<=i/\∀ a∈fs,OrdS H5 p n ps.length (prs ties) a) ⟨[],_,rfl,sf,upd_same,Nat.le_refl _,(fun _ h=>nomatch h)⟩ (fun i σ G _ z=>by obtain⟨_,_,_,s,_⟩:=z;exact SqL.of (s _ _ g5)) ?_ ?_
  ·rintro i x σ G hx ⟨fs,v5,rfl,sG,gf,fl6,fo⟩
   obtain⟨il,e⟩:=List.getElem?_eq_some_iff.mp hx
   rw[List.length_map]at il
   rw[List.getElem_map]at e
   subst e
   obtain⟨ap,ord,ga,pm⟩:=o5 _ (List.getElem_mem il)
   have ol:ord.length=n:=by rw[pm.length_eq,upto_length]
   refine⟨_,rfl,_,rfl,bs[i],fl,fs,ord,rfl,rfl,sG _ _ ga,gf,fun a ha=>?_,fun b=>⟨b,rfl,?_⟩⟩
   ·obtain⟨_,o,g,_⟩:=fo a ha
    exact⟨o,sG _ _ g⟩
   cases b with
   |false=>exact⟨fs,_,rfl,sG,gf,by omega,fo⟩
   |true =>
    refine⟨_,rfl,q,_,rfl,sG _ _ gq5,_,rfl,_,rfl,t,bs[i],n,ties,ord,rfl,n30,W5.same sG,ok,sG _ _ ga,pm,fun wl G2 gw s2=>⟨wl,_,rfl,gw,?_,fun m mm ml=>?_⟩⟩
    ·intro z
     have:=congrArg List.length z
     rw[lens_len,ol]at this
     simp at this
     omega
    have mf:=max_few mm
    refine⟨_,m,rfl,by omega,by rw[List.length_map];omega,by omega,by omega,fun G3 s3=>?_⟩
    have sG3:=sG.trans (s2.trans s3)
    obtain⟨⟨us,vs,g1,_,_⟩,_⟩:=W5.same sG3
    refine⟨_,rfl,t,_,_,_,rfl,rfl,g1,at0,_,_,rfl,rfl,.inr ⟨by omega,by omega⟩,_,_,rfl,rfl,_,rfl,ite2 (fun h=>?_) (fun h=>?_)⟩
    ·have h:=of_decide_eq_true h
     rw[List.length_map]at h
     refine⟨_,rfl,⟨fl,_,rfl,(s2.trans s3) _ _ gf⟩,_,rfl,fl,_,_,rfl,rfl,(s2.trans s3) _ _ gf,(by rw[List.length_map,sizeLine_eq];omega),?_⟩
     refine⟨fs++[bs[i]],_,rfl,same_put sG3 hfl,by rw[upd_same,List.map_append];rfl,by rw[List.length_append,List.length_singleton];omega,fun a ha=>?_⟩
     rcases List.mem_append.mp ha with z | z
     ·exact fo a z
     ·rw[List.mem_singleton.mp z]
      exact⟨ap,ord,ga,pm,small_of p1 n1 ol ml h⟩
    ·exact⟨fs,_,rfl,sG3,(s2.trans s3) _ _ gf,by omega,fo⟩
  ·rintro σ G ⟨fs,v5,rfl,sG,gf,fl6,fo⟩
   refine⟨_,rfl,2,rfl,fl,_,rfl,SqL.of gf,fun u hu=>?_⟩
   have su:=Same.new (o:=.lst (cutV (fs.map V.ref) none (some 2))) hu
   have gu:(upd G u (.lst (cutV (fs.map V.ref) none (some 2)))) u=some (.lst ((fs.take 2).map V.ref)):=by
    rw[upd_same,show(2:Int)=((2:Nat):Int)from rfl,cutV_til,List.map_take]
   refine fin u (fs.take 2) _ gu ((B5.same sG).ne hu) (by rw[List.length_take];omega) (fun a ha=>?_) ((B5.same (sG.trans su)).mono (by omega)) (k5.trans fun b o _ e=>(sG.trans su) b o e)
   obtain⟨ap,o,g,pm,sm⟩:=fo a (List.mem_of_mem_take ha)
   exact⟨ap,o,(sG.trans su) _ _ g,pm,sm⟩
end
end K45
namespace Hng
open Nar (Tie ch)
section
variable{n:Nat}{ties:List Tie}{L:List Ht}{v:Int}
noncomputable def tpay(a:Int->Int)(x:Tie):Int:=if a x.1=a x.2.1 then 0 else x.2.2
theorem pay_tie(a:Int->Int)(h:Ht):tpay a (toTie h)=pay a h:=by
 unfold tpay pay toTie
 by_cases z:h.1<h.2.1
 ·rw[if_pos z]
 ·rw[if_neg z]
  show(if a h.2.1=a h.1 then 0 else h.2.2)=_
  by_cases y:a h.1=a h.2.1
  ·rw[if_pos y,if_pos y.symm]
  ·rw[if_neg y,if_neg (Ne.symm y)]
theorem pay_sum{wt:List Tie}{S:List Ht}(p:wt.Perm (S.map toTie))(a:Int->Int):(wt.map (tpay a)).sum=(S.map (pay a)).sum:=by
 rw[sum_perm (p.map (tpay a)),List.map_map]
 congr 1
 exact List.map_congr_left fun h _=>pay_tie a h
end
open Nar (Tie ch)
open Nar (Tie ch)
theorem sum_parts{f:Ht->Int}{key:Ht->Int}:∀ {V:List Int} (_:V.Nodup) {L:List Ht} (_:∀ h∈L,key h∈V),(L.map f).sum=(V.map fun v=>((L.filter fun h=>decide (key h=v)).map f).sum).sum
 |[],_,L,h=>by
  cases L with
  |nil=>rfl
  |cons a L=>exact absurd (h a (List.mem_cons_self ..)) (by simp)
 |v :: V,nd,L,h=>by
  rw[List.nodup_cons]at nd
  rw[List.map_cons,List.sum_cons]
  have e1:(L.map f).sum=((L.filter fun h=>decide (key h=v)).map f).sum+((L.filter fun h=>!decide (key h=v)).map f).sum:=by
   clear h
   induction L with
   |nil=>rfl
   |cons a L ih =>
    rw[List.map_cons,List.sum_cons,ih,List.filter_cons,List.filter_cons]
    by_cases z:key a=v
    ·rw[if_pos (decide_eq_true z),if_neg (by rw[decide_eq_true z];exact Bool.false_ne_true),List.map_cons,List.sum_cons]
     omega
    ·rw[if_neg (fun w=>z (of_decide_eq_true w)),if_pos (by rw[decide_eq_false z];rfl),List.map_cons,List.sum_cons]
     omega
  rw[e1,sum_parts (f:=f) (key:=key) nd.2 (L:=L.filter fun h=>!decide (key h=v)) (fun g hg=>by
   obtain⟨g1,g2⟩:=List.mem_filter.mp hg
   rcases List.mem_cons.mp (h g g1)with e | e
   ·rw[decide_eq_true e]at g2;cases g2
   ·exact e)]
  congr 2
  refine List.map_congr_left fun u hu=>?_
  rw[List.filter_filter]
  congr 2
  refine List.filter_congr fun g _=>?_
  by_cases z:key g=u
  ·rw[decide_eq_true z,decide_eq_false (fun y=>nd.1 (by rw[<- y,z];exact hu))]
   rfl
  ·rw[decide_eq_false z]
   rfl
section
variable{n:Nat}{ps:List Int}{ties:List Tie}{L:List Ht}{R:Int->List (Option Int)}{a:Int->Int}
theorem due_parts(H:Hang n ties L):(L.map fun h=>mv ps (R h.1) (a h.2.1) h.2.2).sum=due ps R (kids L 0) (a 0)+(L.map fun h=>due ps R (kids L h.1) (a h.1)).sum:=by
 rw[sum_parts (key:=fun h=>h.2.1) H.nd (fun h hh=>(H.ne hh).2.2),List.map_cons,List.sum_cons,List.map_map]
 have e:∀ v:Int,((L.filter fun h=>decide (h.2.1=v)).map fun h=>mv ps (R h.1) (a h.2.1) h.2.2).sum=due ps R (kids L v) (a v):=fun v=>by
  unfold due kids
  rw[List.map_map]
  congr 1
  refine List.map_congr_left fun h hh=>?_
  rw[of_decide_eq_true (List.mem_filter.mp hh).2]
  rfl
 rw[e 0]
 congr 2
 exact List.map_congr_left fun h _=>e h.1
theorem sum_le{α:Type}{f g:α->Int}:∀ {l:List α},(∀ x∈l,f x<=g x)->(l.map f).sum<=(l.map g).sum
 |[],_=>Int.le_refl _
 |x :: l,h=>by
  have:=h x (List.mem_cons_self ..)
  have:=sum_le (l:=l) fun y hy=>h y (List.mem_cons_of_mem _ hy)
  rw[List.map_cons,List.map_cons,List.sum_cons,List.sum_cons]
  lia
theorem pay_mv(h:Ht):(if a h.1=a h.2.1 then due ps R (kids L h.1) (a h.1)else due ps R (kids L h.1) (a h.1)+h.2.2)=pay a h+due ps R (kids L h.1) (a h.1):=by
 unfold pay
 by_cases z:a h.1=a h.2.1
 ·rw[if_pos z,if_pos z];omega
 ·rw[if_neg z,if_neg z];omega
theorem cost_ge(H:Hang n ties L)(T:Tab n ps L R)(ne:ps≠[])(ha:∀ v:Int,0<=v->v<n->a v∈ch ps v):due ps R (kids L 0) (a 0)<=(L.map (pay a)).sum:=by
 have e:=due_parts (ps:=ps) (R:=R) (a:=a) H
 have le:(L.map fun h=>mv ps (R h.1) (a h.2.1) h.2.2).sum<=(L.map fun h=>pay a h+due ps R (kids L h.1) (a h.1)).sum:=sum_le fun h hh=>by
  obtain⟨r0,r1⟩:=H.rg h hh
  have m:=mv_lst (ps:=ps) ne (R:=R) (v:=h.1) (q:=a h.2.1) (w:=h.2.2) (ks:=kids L h.1)
  rw[<- T h.1 r0 r1]at m
  have:=m.le _ (List.mem_map.mpr ⟨a h.1,ha h.1 r0 r1,rfl⟩)
  rw[pay_mv]at this
  exact this
 have s:=sum_add (l:=L) (f:=fun h=>pay a h+due ps R (kids L h.1) (a h.1)) (g:=pay a) (h:=fun h=>due ps R (kids L h.1) (a h.1)) fun _ _=>rfl
 omega
theorem cost_eq(H:Hang n ties L)(ha:∀ h∈L,mv ps (R h.1) (a h.2.1) h.2.2=if a h.1=a h.2.1 then due ps R (kids L h.1) (a h.1)else due ps R (kids L h.1) (a h.1)+h.2.2):(L.map (pay a)).sum=due ps R (kids L 0) (a 0):=by
 have e:=due_parts (ps:=ps) (R:=R) (a:=a) H
 have e2:(L.map fun h=>mv ps (R h.1) (a h.2.1) h.2.2)=L.map fun h=>pay a h+due ps R (kids L h.1) (a h.1):=List.map_congr_left fun h hh=>by rw[ha h hh,pay_mv]
 have s:=sum_add (l:=L) (f:=fun h=>pay a h+due ps R (kids L h.1) (a h.1)) (g:=pay a) (h:=fun h=>due ps R (kids L h.1) (a h.1)) fun _ _=>rfl
 rw[e2]at e
 omega
end
end Hng
namespace K45
open PySem L2 PyProof.Rows
open Nar (Row Vl RL LR ch IsSum OrdN)
open Hng (Ht Hang kids mv due rowOf Tab toTie pay tpay Lst)
noncomputable def Best(n:Nat)(ties:List Tie)(ps:List Int)(c:Int)(r:List Int)(m:Int):Prop:=IsSum ((LR ps n).map fun r=>r.map some) (Nar.cst ties) c (r.map some) m
theorem Best.mem{n:Nat}{ties:List Tie}{ps:List Int}{c m:Int}{r:List Int}(h:Best n ties ps c r m):r∈LR ps n:=by
 obtain⟨x,hx,e⟩:=List.mem_map.mp (IsSum.mem h)
 rw[(List.map_inj_right fun _ _ z=>by injection z).mp e]at hx
 exact hx
theorem Best.one{n:Nat}{ties:List Tie}{ps:List Int}{c c' m m':Int}{r r':List Int}(h:Best n ties ps c r m)(g:Best n ties ps c' r' m'):c=c'/\r=r'/\m=m':=by
 obtain⟨a,b,d⟩:=IsSum.one h g
 exact⟨a,(List.map_inj_right fun _ _ z=>by injection z).mp b,d⟩
theorem best_of{n:Nat}{ties:List Tie}{ps ord:List Int}{v:Vl}(nd:ps.Nodup)(pm:ord.Perm (upto n))(h:IsSum (RL n ps ord n) (Nar.cst ties) v.1 v.2.1 v.2.2):∃ r:List Int,v.2.1=r.map some/\Best n ties ps v.1 r v.2.2:=by
 have pr:=Nar.rl_lr (ps:=ps) nd (op_ok (ties:=ties) pm).1 fun j hj=>Nar.ord_all pm hj
 have g:=h.perm pr.symm
 obtain⟨r,_,e⟩:=List.mem_map.mp g.mem
 refine⟨r,e.symm,?_⟩
 unfold Best
 rw[e]
 exact g
noncomputable def TAt(H:Hp)(a:Addr)(c:Int)(r:List Int)(m:Int):Prop:=∃ ra,H a=some (.tup [.int c,.ref ra,.int m])/\H ra=some (.tup (r.map V.int))
theorem TAt.same{H H':Hp}{a:Addr}{c m:Int}{r:List Int}(h:TAt H a c r m)(s:Same H H'):TAt H' a c r m:=by
 obtain⟨ra,h1,h2⟩:=h
 exact⟨ra,s _ _ h1,s _ _ h2⟩
theorem row_int(r:List Int):((r.map some).map oI)=r.map V.int:=by
 rw[List.map_map]
 rfl
theorem tat_of{n:Nat}{ties:List Tie}{ps ord:List Int}{v:Vl}{H:Hp}{a:Addr}(nd:ps.Nodup)(pm:ord.Perm (upto n))(A:VlAt H a v)(h:IsSum (RL n ps ord n) (Nar.cst ties) v.1 v.2.1 v.2.2):∃ r,TAt H a v.1 r v.2.2/\Best n ties ps v.1 r v.2.2:=by
 obtain⟨r,e,b⟩:=best_of nd pm h
 obtain⟨ra,h1,h2⟩:=A
 rw[e,row_int]at h2
 exact⟨r,⟨ra,h1,h2⟩,b⟩
theorem dat_tat{H:Hp}{a:Addr}{c m:Int}{r:List Int}(h:TAt H a c r m)(l:r.length<=1000):Dat H 2 (.ref a) (.tup [.int c,.tup (r.map Dt.int),.int m]):=by
 obtain⟨ra,h1,h2⟩:=h
 exact⟨a,_,rfl,by show 3<=1000;decide,h1,.cons rfl (.cons (dat_intsT 0 h2 l) (.cons rfl .nil))⟩
theorem cst_more{n:Nat}{ties:List Tie}(ok:∀ x∈ties,TieOk n x){r:List Int}(l:r.length=n)(o:Int):Nar.cst ties ((r++[o]).map some)=Nar.cst ties (r.map some):=by
 unfold Nar.cst
 congr 1
 refine List.map_congr_left fun x hx=>?_
 obtain⟨a,b,c⟩:=x
 obtain⟨o1,o2,o3,_⟩:=ok _ hx
 have o1:0<=a:=o1
 have o2:a<b:=o2
 have o3:b<n:=o3
 have ra:a.toNat<r.length:=by omega
 have rb:b.toNat<r.length:=by omega
 rw[dfc_eq ra rb,dfc_eq (r:=r++[o]) (by rw[List.length_append];omega) (by rw[List.length_append];omega),List.getElem_append_left ra,List.getElem_append_left rb]
theorem lex_more{o p:Int}(le:p<=o):∀ {x y:List Int},x.length=y.length->lexO (x.map some) (y.map some)=false->lexO ((x++[o]).map some) ((y++[p]).map some)=false
 |[],[],_,_=>by
  show lexO [some o] [some p]=false
  unfold lexO
  by_cases e:some o=some p
  ·rw[if_pos e];rfl
  ·rw[if_neg e];exact decide_eq_false (by omega)
 |[],_ :: _,l,_=>by cases l
 | _ :: _,[],l,_=>by cases l
 |a :: x,b :: y,l,h=>by
  have h:lexO (some a :: x.map some) (some b :: y.map some)=false:=h
  show lexO (some a :: (x++[o]).map some) (some b :: (y++[p]).map some)=false
  unfold lexO at h ⊢
  by_cases e:some a=some b
  ·rw[if_pos e]at h ⊢;exact lex_more le (by injection l) h
  ·rw[if_neg e]at h ⊢;exact h
theorem flat_filter{α β:Type}{f:α->List β}{p:β->Bool}{p':α->Bool}{k:Nat}:∀ {l:List α},(∀ x∈l,(f x).length=k/\∀ y∈f x,p y=p' x)->((l.flatMap f).filter p).length=(l.filter p').length * k
 |[],_=>by rw[List.flatMap_nil];simp
 |a :: l,h=>by
  have ih:=flat_filter (l:=l) fun x hx=>h x (List.mem_cons_of_mem _ hx)
  obtain⟨h1,h2⟩:=h a (List.mem_cons_self ..)
  rw[List.flatMap_cons,List.filter_append,List.length_append,ih,List.filter_cons]
  cases e:p' a with
  |true =>
   rw[if_pos rfl,List.filter_eq_self.mpr fun y hy=>by rw[h2 y hy,e],h1,List.length_cons,Nat.succ_mul,Nat.add_comm]
  |false =>
   rw[if_neg (fun z=>nomatch z),List.filter_eq_nil_iff.mpr fun y hy z=>by rw[h2 y hy,e]at z;cases z]
   exact Nat.zero_add _
theorem best_more{n:Nat}{ties:List Tie}(ok:∀ x∈ties,TieOk n x){ps:List Int}(P:PostOk n ps){c m:Int}{r:List Int}(h:Best n ties ps c r m):Best (n+1) ties ps c (r++[ps.getD 0 0]) (m * ps.length):=by
 have cn:ch ps (n:Int)=ps:=by
  unfold Nar.ch
  rw[if_neg fun z=>by have:=(P.rg _ z).2;omega]
 have el:LR ps (n+1)=(LR ps n).flatMap fun r=>ps.map fun o=>r++[o]:=by
  show((LR ps n).flatMap fun r=>(ch ps n).map fun o=>r++[o])=_
  rw[cn]
 have p0:ps.getD 0 0∈ps/\∀ o∈ps,ps.getD 0 0<=o:=by
  have:=P.lo
  have ri:=P.ri
  cases ps with
  |nil=>simp at this
  |cons a l =>
   refine⟨List.mem_cons_self ..,fun o ho=>?_⟩
   rcases List.mem_cons.mp ho with e | e
   ·rw[e];exact Int.le_refl _
   ·exact(List.pairwise_cons.mp ri).1 o e
 have ln:∀ y∈LR ps n,y.length=n:=fun y hy=>(Nar.lr_mem.mp hy).1
 have rn:=ln r h.mem
 have out:∀ x∈(LR ps (n+1)).map (fun r=>r.map some),∃ y o,y∈LR ps n/\o∈ps/\x=(y++[o]).map some:=fun x hx=>by
  obtain⟨x0,h0,rfl⟩:=List.mem_map.mp hx
  rw[el]at h0
  obtain⟨y,hy,hz⟩:=List.mem_flatMap.mp h0
  obtain⟨o,ho,rfl⟩:=List.mem_map.mp hz
  exact⟨y,o,hy,ho,rfl⟩
 have inn:∀ y∈LR ps n,(y.map some)∈(LR ps n).map fun r=>r.map some:=fun y hy=>List.mem_map.mpr ⟨y,hy,rfl⟩
 refine⟨List.mem_map.mpr ⟨_,by rw[el];exact List.mem_flatMap.mpr ⟨r,h.mem,List.mem_map.mpr ⟨_,p0.1,rfl⟩⟩,rfl⟩,by rw[cst_more ok rn];exact IsSum.eq h,fun x hx=>?_,fun x hx ex=>?_,?_,fun x hx=>?_⟩
 ·obtain⟨y,o,hy,ho,rfl⟩:=out x hx
  rw[cst_more ok (ln y hy)]
  exact IsSum.le h _ (inn y hy)
 ·obtain⟨y,o,hy,ho,rfl⟩:=out x hx
  rw[cst_more ok (ln y hy)]at ex
  exact lex_more (p0.2 o ho) (by rw[ln y hy,rn]) (IsSum.fst h _ (inn y hy) ex)
 ·have e1:=IsSum.num h
  rw[List.filter_map,List.length_map]at e1
  rw[e1,List.filter_map,List.length_map,el,flat_filter (p':=(fun x=>decide (Nar.cst ties x=c)) ∘ fun r:List Int=>r.map some) (k:=ps.length) fun y hy=>⟨List.length_map ..,fun z hz=>?_⟩,Int.natCast_mul]
  obtain⟨o,ho,rfl⟩:=List.mem_map.mp hz
  show decide (Nar.cst ties ((y++[o]).map some)=c)=decide (Nar.cst ties (y.map some)=c)
  rw[cst_more ok (ln y hy)]
 ·obtain⟨y,o,hy,ho,rfl⟩:=out x hx
  unfold LikeO
  rw[List.map_map,List.map_map]
  refine List.ext_getElem (by rw[List.length_map,List.length_map,List.length_append,List.length_append,ln y hy,rn];rfl) fun j h1 h2=>?_
  rw[List.getElem_map,List.getElem_map]
  rfl
section
variable{n:Nat}{ties:List Tie}{ps:List Int}{L:List Ht}{R:Int->List (Option Int)}
theorem tree_row(HG:Hang n ties L)(T:Tab n ps L R)(ne:ps≠[])(q:Int):∃ a:Int->Int,(∀ v:Int,0<=v->v<n->a v∈ch ps v)/\(L.map (pay a)).sum=mv ps (R 0) q 0:=by
 have n1:=HG.n1
 have m0:=Hng.mv_lst (ps:=ps) ne (R:=R) (v:=0) (q:=q) (w:=0) (ks:=kids L 0)
 rw[<- T 0 (Int.le_refl _) (by omega)]at m0
 obtain⟨o0,ho0,e0⟩:=List.mem_map.mp m0.mem
 have nd:=(List.nodup_cons.mp HG.nd)
 have key:∀ k,k<=L.length->∃ a:Int->Int,a 0=o0/\∀ h∈L.take k,a h.1∈ch ps h.1/\mv ps (R h.1) (a h.2.1) h.2.2=if a h.1=a h.2.1 then due ps R (kids L h.1) (a h.1)else due ps R (kids L h.1) (a h.1)+h.2.2:=by
  intro k
  induction k with
  |zero=>exact fun _=>⟨fun _=>o0,rfl,fun h hh=>by rw[List.take_zero]at hh;cases hh⟩
  |succ k ih =>
   intro hk
   obtain⟨a,a0,ha⟩:=ih (by omega)
   have kl:k<L.length:=hk
   obtain⟨r0,r1⟩:=HG.rg L[k] (List.getElem_mem kl)
   have m:=Hng.mv_lst (ps:=ps) ne (R:=R) (v:=L[k].1) (q:=a L[k].2.1) (w:=L[k].2.2) (ks:=kids L L[k].1)
   rw[<- T _ r0 r1]at m
   obtain⟨o,ho,e⟩:=List.mem_map.mp m.mem
   have new:L[k].1∉0 :: (L.take k).map (·.1):=fun z=>by
    rcases List.mem_cons.mp z with z | z
    ·exact nd.1 (z▸List.mem_map.mpr ⟨_,List.getElem_mem kl,rfl⟩)
    ·obtain⟨g,hg,eg⟩:=List.mem_map.mp z
     obtain⟨j,hj,rfl⟩:=List.getElem_of_mem hg
     rw[List.length_take]at hj
     rw[List.getElem_take]at eg
     have:=Hng.fst_inj nd.2 (by omega) kl eg
     omega
   have par:∀ j (hj:j<L.length),j<=k->L[j].2.1≠L[k].1:=fun j hj jk z=>new (z▸by
    rcases List.mem_cons.mp (HG.up j hj)with y | y
    ·rw[y];exact List.mem_cons_self ..
    ·obtain⟨g,hg,eg⟩:=List.mem_map.mp y
     exact List.mem_cons_of_mem _ (List.mem_map.mpr ⟨g,(List.take_subset_take_left L jk) hg,eg⟩))
   obtain⟨b,b1,b2⟩:∃ b:Int->Int,(∀ u,u≠L[k].1->b u=a u)/\b L[k].1=o:=⟨fun u=>if u=L[k].1 then o else a u,fun u hu=>if_neg hu,if_pos rfl⟩
   refine⟨b,by rw[b1 0 fun z=>new (List.mem_cons.mpr (.inl z.symm))];exact a0,fun h hh=>?_⟩
   rw[List.take_succ_eq_append_getElem kl]at hh
   rcases List.mem_append.mp hh with hh | hh
   ·obtain⟨j,hj,ej⟩:=List.getElem_of_mem hh
    rw[List.length_take]at hj
    rw[List.getElem_take]at ej
    rw[b1 h.1 fun z=>new (z▸List.mem_cons_of_mem _ (List.mem_map.mpr ⟨h,hh,rfl⟩)),b1 h.2.1 (by rw[<- ej];exact par j (by omega) (by omega))]
    exact ha h hh
   ·rw[List.mem_singleton.mp hh,b2,b1 _ (par k kl (Nat.le_refl _))]
    exact⟨ho,e.symm⟩
 obtain⟨a,a0,ha⟩:=key L.length (Nat.le_refl _)
 rw[List.take_length]at ha
 refine⟨a,fun v v0 v1=>?_,?_⟩
 ·rcases List.mem_cons.mp (HG.all v0 v1)with e | e
  ·rw[e,a0];exact ho0
  ·obtain⟨g,hg,rfl⟩:=List.mem_map.mp e
   exact(ha g hg).1
 ·rw[Hng.cost_eq HG fun h hh=>(ha h hh).2,a0]
  rw[<- e0]
  split <;> omega
theorem cst_pay(HG:Hang n ties L)(ok:∀ x∈ties,TieOk n x){r:List Int}(l:r.length=n):Nar.cst ties (r.map some)=(L.map (pay fun v=>r.getD v.toNat 0)).sum:=by
 rw[<- Hng.pay_sum HG.tie]
 unfold Nar.cst
 congr 1
 refine List.map_congr_left fun x hx=>?_
 obtain⟨a,b,c⟩:=x
 obtain⟨o1,o2,o3,_⟩:=ok _ hx
 have o1:0<=a:=o1
 have o2:a<b:=o2
 have o3:b<n:=o3
 have ra:a.toNat<r.length:=by omega
 have rb:b.toNat<r.length:=by omega
 rw[dfc_eq ra rb]
 unfold Hng.tpay
 show _=if r.getD a.toNat 0=r.getD b.toNat 0 then 0 else c
 rw[List.getD_eq_getElem?_getD,List.getD_eq_getElem?_getD,List.getElem?_eq_getElem ra,List.getElem?_eq_getElem rb]
 rfl
theorem tree_best(HG:Hang n ties L)(T:Tab n ps L R)(ok:∀ x∈ties,TieOk n x)(ne:ps≠[]){c m:Int}{r:List Int}(h:Best n ties ps c r m)(q:Int):mv ps (R 0) q 0=c:=by
 have n1:=HG.n1
 obtain⟨rl,rc⟩:=Nar.lr_mem.mp h.mem
 refine Int.le_antisymm ?_ ?_
 ·have ha:∀ v:Int,0<=v->v<n->r.getD v.toNat 0∈ch ps v:=fun v v0 v1=>by
   have:=rc v.toNat (by omega)
   rw[show((v.toNat:Nat):Int)=v by omega]at this
   rw[List.getD_eq_getElem?_getD,List.getElem?_eq_getElem (by omega)]
   exact this
  have ge:=Hng.cost_ge (a:=fun v=>r.getD v.toNat 0) HG T ne ha
  rw[<- cst_pay HG ok rl,IsSum.eq h]at ge
  have mm:=Hng.mv_lst (ps:=ps) ne (R:=R) (v:=0) (q:=q) (w:=0) (ks:=kids L 0)
  rw[<- T 0 (Int.le_refl _) (by omega)]at mm
  have:=mm.le _ (List.mem_map.mpr ⟨r.getD 0 0,ha 0 (Int.le_refl _) (by omega),rfl⟩)
  have e:(if r.getD 0 0=q then due ps R (kids L 0) (r.getD 0 0)else due ps R (kids L 0) (r.getD 0 0)+0)=due ps R (kids L 0) (r.getD 0 0):=by split <;> omega
  rw[e]at this
  exact Int.le_trans this ge
 ·obtain⟨a,ha,ea⟩:=tree_row HG T ne q
  have ml:((upto n).map a).length=n:=by rw[List.length_map,upto_length]
  have eq:∀ v:Int,0<=v->v<n->((upto n).map a).getD v.toNat 0=a v:=fun v v0 v1=>by
   have vl:v.toNat <(upto n).length:=by rw[upto_length];omega
   rw[List.getD_eq_getElem?_getD,List.getElem?_map,List.getElem?_eq_getElem vl]
   show a _=a v
   congr 1
   have:∀ h,((List.range n).map fun(i:Nat)=>(i:Int))[v.toNat]'h=v:=fun h=>by
    rw[List.getElem_map,List.getElem_range]
    omega
   exact this vl
  have mem:(upto n).map a∈LR ps n:=Nar.lr_mem.mpr ⟨ml,fun j hj=>by
   rw[ml]at hj
   have:=eq j (by omega) (by omega)
   rw[Int.toNat_natCast,List.getD_eq_getElem?_getD,List.getElem?_eq_getElem (by rw[ml];exact hj)]at this
   have this:((upto n).map a)[j]'(by rw[ml];exact hj)=a j:=this
   rw[this]
   exact ha j (by omega) (by omega)⟩
  have:=IsSum.le h _ (List.mem_map.mpr ⟨_,mem,rfl⟩)
  rw[cst_pay HG ok ml]at this
  rw[<- ea]
  refine Int.le_trans this (Int.le_of_eq ?_)
  congr 1
  refine List.map_congr_left fun g hg=>?_
  obtain⟨g0,g1⟩:=HG.rg g hg
  obtain⟨_,_,g3⟩:=HG.ne hg
  have g4:0<=g.2.1/\g.2.1<n:=by
   rcases List.mem_cons.mp g3 with e | e
   ·rw[e];omega
   ·obtain⟨g',hg',e'⟩:=List.mem_map.mp e
    have:=HG.rg g' hg'
    rw[<- e'];exact this
  unfold Hng.pay
  show(if((upto n).map a).getD g.1.toNat 0=((upto n).map a).getD g.2.1.toNat 0 then 0 else g.2.2)=_
  rw[eq _ g0 g1,eq _ g4.1 g4.2]
end
end K45
namespace L2
open PySem PySem.W PyProof.Rows Srt
inductive rEqEI(x:V)(y:V)(H:Hp)(Q:VK):Prop where
 |mk (p q:Addr) (xs:List V) (h1:x = .ref p) (h2:y = .ref q) (h3:H p=some (.lst xs)) (h4:H q=some (.lst [])) (h5:Q (.bl xs.isEmpty) H)
noncomputable def rEqE:R2:=fun x y H Q=>rEqEI x y H Q
theorem op_eqE{X:Cx}(hu:X.A.units<cLine):OpR X (compareOp .Eq) rEqE:=by
 intro pins s σ H x y v u Q I rx ry h
 obtain⟨p,q',xs,rfl,rfl,h1,h2,q⟩:=h
 cases rx
 cases ry
 obtain⟨its,r,pl,hz⟩:=I.list (SqL.of (K:=X.K) h1)
 obtain⟨its',r',pl',hz'⟩:=I.list (SqL.of (K:=X.K) h2)
 have l1:=r.length
 have l2:=r'.length
 rw[List.length_nil]at l2
 by_cases e:xs=[]
 ·subst e
  rw[List.length_nil]at l1
  refine SeqAt.RcAt.lists pl.isList pl'.isList (by simp only[List.size_toArray];omega) hu (e:=fun _=>true) (fun j h1 h2=>by simp only[List.size_toArray]at h1;omega) _ _ _ _ ?_
  rw[List.size_toArray,<- l1]
  exact⟨.bl _,H,I,rfl,q⟩
 ·have l0:0<xs.length:=List.length_pos_iff.mpr e
  refine SeqAt.RcAt.lists_lengths pl.isList pl'.isList (by simp only[List.size_toArray,bne_iff_ne];omega) hu _ _ _ _ ?_
  rw[show xs.isEmpty=false by cases xs with | nil=>exact absurd rfl e | cons _ _=>rfl]at q
  exact⟨.bl _,H,I,rfl,q⟩
end L2
namespace K45
open PySem L2 PyProof.Rows
open Nar (Vl RL LR ch IsSum)
theorem cutZ{C T:Int->Hp->Prop}{G:Prop}(k:(∀ z HG,C z HG->T z HG)->G)(r:∀ z HG,C z HG->T z HG):G:=k r
theorem cutA{C T:Addr->Hp->Prop}{G:Prop}(k:(∀ z HG,C z HG->T z HG)->G)(r:∀ z HG,C z HG->T z HG):G:=k r
theorem cutH{C T:Hp->Prop}{G:Prop}(k:(∀ HG,C HG->T HG)->G)(r:∀ HG,C HG->T HG):G:=k r
theorem rep_b(b:Bool)(i:Nat):(List.replicate i b).map V.bl++[V.bl b]=(List.replicate (i+1) b).map V.bl:=by rw[List.replicate_succ',List.map_append];rfl
theorem any_rep(i:Nat):(List.replicate i false).any id=false:=by simp
theorem all_rep(i:Nat):(List.replicate i true).all id=true:=by simp
theorem kept_s{p:Addr}{H H':Hp}(s:Same H H'):Kept p H H':=fun b o _ e=>s b o e
theorem tieK_inj{x y:List Tie}(h:x.map tieK=y.map tieK):x=y:=by
 have:=congrArg (List.map untie) h
 rw[List.map_map,List.map_map]at this
 have e:untie ∘ tieK=id:=funext fun x=>untie_K x
 rwa [e,List.map_id,List.map_id]at this
theorem tie_more{n:Nat}{ties:List Tie}(ok:∀ x∈ties,TieOk n x):∀ x∈ties,TieOk (n+1) x:=fun x hx=>by
 obtain⟨a,b,c,d⟩:=ok x hx
 exact⟨a,b,by omega,d⟩
theorem post_more{n:Nat}{ps:List Int}(h:PostOk n ps):PostOk (n+1) ps:=⟨h.nd,fun x hx=>by have:=h.rg x hx;omega,h.lo,h.hi,h.ri⟩
inductive spRiI(vs:List V)(H:Hp)(Q:VK):Prop where
 |mk (p:Addr) (h1:vs=[.ref p]) (h2:BoxAt H p 0) (h3:∀ H',Kept p H H'->Q (.bl true) H')
noncomputable def spRi:Sp:=fun vs H Q _=>spRiI vs H Q
structure Fr(P:Program)(w:World)(K:PySem.W.Frag)(mg:Str->Option Value)(base:Heap)(g0 g1 g2 g3 g4 g5 g6 g7 g8 g9:Addr)(d0 d1 d2 d3 d4 d5 d6 d7 d8 d9:FuncData):Prop where
 take:TakeF P w K mg base g0 d0
 many:CalF P w K mg base 2 "_law_many" ["_law_box_here","_law_least","_law_few","_law_most"] spMany g1 d1
 tree:CalF P w K mg base 3 "_law_tree" ["_law_box_here","_law_many_here"] spTree g2 d2
 wm:CalF P w K mg base 3 "_law_with_more" ["_law_box_here","_law_web"] spWm g3 d3
 posts:CalF P w K mg base 2 "_law_posts" ["_law_box_here","_law_many_here","_law_most"] spPo g4 d4
 ln:CalF P w K mg base 2 "least_narrow" ["web","posts","order"] spLn g5 d5
 od:CalF P w K mg base 3 "_law_orders" ["_law_box_here","_law_web","_law_posts_here"] spOd g6 d6
 cost:CalF P w K mg base 1 "_law_cost" ["_law_web","_law_owners"] spCo g7 d7
 lt:CalF P w K mg base 3 "least_on_tree" ["web","posts"] spLt g8 d8
 al:CalF P w K mg base 1 "_law_alone" ["_law_web"] spAl g9 d9
section
variable{P:Program}{w:World}{K:PySem.W.Frag}{mg:Str->Option Value}{base:Heap}
noncomputable abbrev nRi:List Str:=["_law_box_here","_law_many_here","_law_tree_here","_law_web","_law_posts_here","_law_told","_law_weight_here","_law_owners","_law_count","_law_more","_law_orders_here"]
theorem scRi:FnScope nRi ["_law_box_here"] (defScope sRight):=⟨rfl,rfl,rfl,by decide +kernel,rfl,by decide +kernel,by decide +kernel⟩
theorem csRi1:CompScope ["_law_order_here","_law_web","_law_posts_here"] [none,some 3,some 4] nRi (defScope sRight) (scO [(".0",.local),("_law_order_here",.local),("least_narrow",.globalImplicit),("_law_posts_here",.free),("_law_web",.free)]):=⟨rfl,by decide +kernel,by decide +kernel,by decide +kernel,rfl,capB_ok (by decide +kernel)⟩
theorem ndRi1:(["_law_order_here","_law_web","_law_posts_here"]:List Str).Nodup:=by decide +kernel
theorem csRi2:CompScope ["_law_one","_law_told"] [none,some 5] nRi (defScope sRight) (scO [(".0",.local),("_law_one",.local),("_law_told",.free)]):=⟨rfl,by decide +kernel,by decide +kernel,by decide +kernel,rfl,capB_ok (by decide +kernel)⟩
theorem ndRi2:(["_law_one","_law_told"]:List Str).Nodup:=by decide +kernel
theorem csRi3:CompScope ["_law_post","_law_owners"] [none,some 7] nRi (defScope sRight) (scO [(".0",.local),("_law_post",.local),("_law_owners",.free)]):=⟨rfl,by decide +kernel,by decide +kernel,by decide +kernel,rfl,capB_ok (by decide +kernel)⟩
theorem ndRi3:(["_law_post","_law_owners"]:List Str).Nodup:=by decide +kernel
theorem csRi4:CompScope ["_law_order_here","_law_web","_law_posts_here","_law_more"] [none,some 3,some 4,some 9] nRi (defScope sRight) (scO [(".0",.local),("_law_order_here",.local),("least_narrow",.globalImplicit),("_law_alone",.globalImplicit),("_law_more",.free),("_law_posts_here",.free),("_law_web",.free)]):=⟨rfl,by decide +kernel,by decide +kernel,by decide +kernel,rfl,capB_ok (by decide +kernel)⟩
theorem ndRi4:(["_law_order_here","_law_web","_law_posts_here","_law_more"]:List Str).Nodup:=by decide +kernel
theorem ok_ri{f g0 g1 g2 g3 g4 g5 g6 g7 g8 g9:Addr}{fd d0 d1 d2 d3 d4 d5 d6 d7 d8 d9:FuncData}(F:Fun K "_law_right" "_law_right" sRight f fd)(T:Txt mg)(T2:Txt2 mg)(TA:mg "any" = none)(S:Fr P w K mg base g0 g1 g2 g3 g4 g5 g6 g7 g8 g9 d0 d1 d2 d3 d4 d5 d6 d7 d8 d9):FnOk P w K mg base CX0 4 f fd ["_law_box_here"] spRi:=by
 refine F.ok scRi (fun vs H Q E h=>?_) (fun cdv A outer s H vs Q E hr h=>?_)
 ·obtain⟨p,rfl,_⟩:=h
  rfl
 ·obtain⟨p,rfl,B,q⟩:=h
  have hr1:Room 1 _:=hr.mono (by decide)
  have hr2:Room 2 _:=hr.mono (by decide)
  have hr3:Room 3 _:=hr
  have hu64:=L2.hu64 hr
  have hu0:_<cLine:=Nat.lt_of_le_of_lt (Nat.le_add_right _ _) hr.units
  have hu2:_+2<cLine:=Nat.lt_of_le_of_lt (Nat.add_le_add_left (by decide:2<=64) _) hr.units
  refine⟨_,(pss_cons (ps_set (i:=1) scRi.nd rfl (Or.inl rfl) (pe_ifExp (pt_cmpR op_eq (pe_call S.take.ok hr1 rfl S.take.mg S.take.kp S.take.bd .nil pass0 (@pa_nam _ _ _ _ _ _ (pv 0) (@pa_cst _ _ _ _ _ _ _ pe_int pa_nil))) pe_int (nomark _)) (pe_call S.many.ok hr2 rfl S.many.mg S.many.kp S.many.bd .nil pass0 (@pa_nam _ _ _ _ _ _ (pv 0) (@pa_cst _ _ _ _ _ _ _ pe_int (@pa_cst _ _ _ _ _ _ _ pe_int (@pa_cst _ _ _ _ _ _ _ pe_int pa_nil))))) (pe_op op_add pe_int (pe_call S.take.ok hr1 rfl S.take.mg S.take.kp S.take.bd .nil pass0 (@pa_nam _ _ _ _ _ _ (pv 0) (@pa_cst _ _ _ _ _ _ _ pe_int pa_nil))))))
   (pss_cons (ps_set (i:=2) scRi.nd rfl (Or.inl rfl) (pe_call S.tree.ok hr3 rfl S.tree.mg S.tree.kp S.tree.bd .nil pass0 (@pa_nam _ _ _ _ _ _ (pv 0) (@pa_nam _ _ _ _ _ _ (pv 1) pa_nil))))
   (pss_cons (ps_set (i:=3) scRi.nd rfl (Or.inr rfl) (pe_ifExp (pt_cmpR op_eq (pe_call S.take.ok hr1 rfl S.take.mg S.take.kp S.take.bd .nil pass0 (@pa_nam _ _ _ _ _ _ (pv 0) (@pa_cst _ _ _ _ _ _ _ pe_int pa_nil))) pe_int (nomark _)) (pv 2) (pe_call S.wm.ok hr3 rfl S.wm.mg S.wm.kp S.wm.bd .nil pass0 (@pa_nam _ _ _ _ _ _ (pv 0) (@pa_nam _ _ _ _ _ _ (pv 2) pa_nil)))))
   (pss_cons (ps_set (i:=4) scRi.nd rfl (Or.inr rfl) (pe_call S.posts.ok hr2 rfl S.posts.mg S.posts.kp S.posts.bd .nil pass0 (@pa_nam _ _ _ _ _ _ (pv 0) (@pa_nam _ _ _ _ _ _ (pv 1) (@pa_cst _ _ _ _ _ _ _ pe_int pa_nil)))))
   (pss_cons (ps_set (i:=5) scRi.nd rfl (Or.inr rfl) (pe_comp rfl csRi1 (pi_list (pe_call S.od.ok hr3 rfl S.od.mg S.od.kp S.od.bd .nil pass0 (@pa_nam _ _ _ _ _ _ (pv 0) (@pa_nam _ _ _ _ _ _ (pv 3) (@pa_nam _ _ _ _ _ _ (pv 4) pa_nil))))) (fun C s H fp=>(pg_name (i:=0) ndRi1 rfl (Or.inl rfl))) (fun C s H fp=>pf_nil) (fun C s H fp=>(pe_call S.ln.ok hr2 rfl S.ln.mg S.ln.kp S.ln.bd .nil pass0 (@pa_nam _ _ _ _ _ _ (pv 1) (@pa_nam _ _ _ _ _ _ (pv 2) (@pa_nam _ _ _ _ _ _ (pv 0) pa_nil)))))))
   (pss_cons (ps_if (pt_cmpR (op_eqE hu0) (pv 5) (@pe_lst _ _ _ _ pa_nil) (nomark _)) (pss_one (ps_ret pe_bl)) pss_nil)
   (pss_cons (ps_if (pt_val (pe_callB (call_anyH rfl) (by rfl) TA boot_any (@pa_comp _ _ _ _ _ _ _ _ (pe_comp rfl csRi2 (pi_list (pv 5)) (fun C s H fp=>(pg_name (i:=0) ndRi2 rfl (Or.inl rfl))) (fun C s H fp=>pf_nil) (fun C s H fp=>(pe_cmpR (op_neS hu64) (pv 0) (@pe_ix _ _ _ _ _ _ _ ix_listH (pv 1) pe_int (fun _ _=>rfl)) (nomark _)))) pa_nil))) pss_never pss_nil)
   (pss_cons (ps_asg (@pe_ix _ _ _ _ _ _ _ ix_listH (pv 5) pe_int (fun _ _=>rfl)) (pg_tup (n:=3) rfl (pgs_cons (pg_name (i:=6) scRi.nd rfl (Or.inl rfl)) (pgs_cons (pg_name (i:=7) scRi.nd rfl (Or.inr rfl)) (pgs_cons (pg_name (i:=8) scRi.nd rfl (Or.inl rfl)) pgs_nil)))))
   (pss_cons (ps_if (PW.pt (pw_or (pt_cmpR op_ne (pe_call S.cost.ok hr1 rfl S.cost.mg S.cost.kp S.cost.bd .nil pass0 (@pa_nam _ _ _ _ _ _ (pv 3) (@pa_nam _ _ _ _ _ _ (pv 7) pa_nil))) (pv 6) (nomark _)) (pw_or1 (pt_val (pe_callB (call_anyH rfl) (by rfl) TA boot_any (@pa_comp _ _ _ _ _ _ _ _ (pe_comp rfl csRi3 (pi_list (pv 4)) (fun C s H fp=>(pg_name (i:=0) ndRi3 rfl (Or.inl rfl))) (fun C s H fp=>pf_nil) (fun C s H fp=>(pe_cmpR op_ne (@pe_ix _ _ _ _ _ _ _ ix_tupH (pv 1) (pv 0) (fun _ _=>rfl)) (pv 0) (nomark _)))) pa_nil)))))) pss_never pss_nil)
   (pss_cons (ps_if (PW.pt (pw_and (pt_cmpR (op_eqW hu2) (pv 3) (pv 2) (nomark _)) (pw_and1 (pt_cmpR op_ne (@pe_ix _ _ _ _ _ _ _ ix_tupH (pe_call S.lt.ok hr3 rfl S.lt.mg S.lt.kp S.lt.bd .nil pass0 (@pa_nam _ _ _ _ _ _ (pv 2) (@pa_nam _ _ _ _ _ _ (pv 4) pa_nil))) pe_int (fun _ _=>rfl)) (pv 6) (nomark _))))) pss_never pss_nil)
   (pss_cons (ps_set (i:=9) scRi.nd rfl (Or.inr rfl) (@pe_tup _ _ _ _ _ (@pa_nam _ _ _ _ _ _ (pv 6) (@pa_bin _ _ _ _ _ _ _ _ (pe_op op_catB (pv 7) (@pe_tup _ _ _ _ _ (@pa_sub _ _ _ _ _ _ _ (@pe_ix _ _ _ _ _ _ _ ix_listH (pv 4) pe_int (fun _ _=>rfl)) pa_nil))) (@pa_bin _ _ _ _ _ _ _ _ (pe_op op_mul (pv 8) (pe_callB call_lenH (by rfl) T.len PySem.boot_len (@pa_nam _ _ _ _ _ _ (pv 4) pa_nil))) pa_nil)))))
   (pss_cons (ps_set (i:=10) scRi.nd rfl (Or.inl rfl) (pe_call S.od.ok hr3 rfl S.od.mg S.od.kp S.od.bd .nil pass0 (@pa_nam _ _ _ _ _ _ (pv 0) (@pa_call _ _ _ _ _ _ _ _ (pe_call S.al.ok hr1 rfl S.al.mg S.al.kp S.al.bd .nil pass0 (@pa_nam _ _ _ _ _ _ (pv 3) pa_nil)) (@pa_nam _ _ _ _ _ _ (pv 4) pa_nil)))))
   (pss_one (ps_ret (pe_callB (call_allH rfl) (by rfl) T2.all boot_all (@pa_comp _ _ _ _ _ _ _ _ (pe_comp rfl csRi4 (pi_list (pv 10)) (fun C s H fp=>(pg_name (i:=0) ndRi4 rfl (Or.inl rfl))) (fun C s H fp=>pf_nil) (fun C s H fp=>(pe_cmpR (op_eqS hu64) (pe_call S.ln.ok hr2 rfl S.ln.mg S.ln.kp S.ln.bd .nil pass0 (@pa_call _ _ _ _ _ _ _ _ (pe_call S.al.ok hr1 rfl S.al.mg S.al.kp S.al.bd .nil pass0 (@pa_nam _ _ _ _ _ _ (pv 1) pa_nil)) (@pa_nam _ _ _ _ _ _ (pv 2) (@pa_nam _ _ _ _ _ _ (pv 0) pa_nil)))) (pv 3) (nomark _)))) pa_nil)))))))))))))))),?_⟩
  apply cutZ (C:=fun z HG=>∃ n:Nat,z=(n:Int)/\2<=n/\n<=29/\BoxAt HG p 10/\Kept p H HG)
  ·intro rest
   refine⟨_,rfl,p,2,0,rfl,B,by decide,by decide,by decide,fun z H1 z0 z1 B1 k1=>⟨rfl,_,rfl,ite2 (fun _=>?_) (fun _=>?_)⟩⟩
   ·refine⟨_,rfl,p,2,6,29,_,rfl,B1,by decide,by decide,by decide,by decide,by decide,fun z H2 hz B2 k2=>?_⟩
    exact rest z H2 ⟨z.toNat,by lia,by lia,by lia,B2.mono (by decide),k1.trans k2⟩
   ·refine⟨_,rfl,p,12,_,rfl,B1,by decide,by decide,by decide,fun z H2 z0 z1 B2 k2=>⟨_,_,rfl,rfl,?_⟩⟩
    exact rest (2+z) H2 ⟨(2+z).toNat,by lia,by lia,by lia,B2.mono (by decide),k1.trans k2⟩
  rintro z H2 ⟨n,rfl,n2,n29,B2,k2⟩
  have n1:1<=n:=by lia
  refine⟨_,rfl,_,rfl,p,n,10,rfl,B2,by decide,by lia,by lia,fun t ties H3 W3 ok tlen pw TR B3 k3=>?_⟩
  apply cutA (C:=fun t2 HG=>∃ ties2:List Tie,WebAt HG t2 n ties2/\(∀ x∈ties2,TieOk n x)/\BoxAt HG p 500/\Kept p H3 HG)
  ·intro rest
   refine⟨_,rfl,p,3,_,rfl,B3,by decide,by decide,by decide,fun z H4 z0 z1 B4 k4=>⟨rfl,_,rfl,ite2 (fun _=>?ga) (fun _=>?gb)⟩⟩
   case gb =>
    refine⟨_,rfl,_,rfl,p,t,n,_,ties,rfl,B4,by decide,by lia,by lia,W3.kept B3 k4,ok,by lia,fun t' tl H5 W5 ok5 B5 k5=>?_⟩
    exact rest t' H5 ⟨tl,W5,ok5,B5.mono (by decide),k4.trans k5⟩
   case ga=>exact⟨_,rfl,rest t H4 ⟨ties,W3.kept B3 k4,ok,B4.mono (by decide),k4⟩⟩
  rintro t2 H4 ⟨ties2,W4,ok2,B4,k4⟩
  have WT4:=W3.kept B3 k4
  have k04:=k2.trans (k3.trans k4)
  clear B2 k2 B3 k3 W3 k4 B
  refine⟨_,rfl,_,rfl,p,n,500,4,rfl,B4,by decide,n2,by lia,by decide,by decide,fun l ps H5 hl gl lp po p2 pmo B5 k5=>?_⟩
  have W5:=W4.kept B4 k5
  have WT5:=WT4.kept B4 k5
  refine⟨_,rfl,_,rfl,_,rfl,p,t2,l,n,_,ties2,ps,rfl,B5,by decide,by lia,by lia,W5,ok2,gl,lp,by lia,by lia,fun ol as H6 gol olp al os B6 k6=>⟨ol,rfl,⟨_,SqL.of gol⟩,?_⟩⟩
  have W6:=W5.kept B5 k6
  have WT6:=WT5.kept B5 k6
  have gl6:=k6 _ _ lp gl
  have k06:=k04.trans (k5.trans k6)
  clear k04 k5 k6 B5 B4 W4 WT4 W5 WT5 gl hl
  refine comp_list (K:=K) (a:=ol) (xs:=as.map V.ref) (fun i ys G=>Same H6 G/\∃ vs:List Addr,ys=vs.map V.ref/\∀ a∈vs,∃ c r m,TAt G a c r m/\Best n ties2 ps c r m) (by rw[List.length_map,sizeLine_eq];lia) ⟨Same.refl _,[],rfl,(fun _ h=>nomatch h)⟩ (fun i ys G _ z=>SqL.of (z.1 _ _ gol)) ?_ ?_
  ·rintro i x ys G hx ⟨sG,vs,rfl,tv⟩
   obtain⟨il,e⟩:=List.getElem?_eq_some_iff.mp hx
   rw[List.length_map]at il
   rw[List.getElem_map]at e
   subst e
   obtain⟨ap,ord,ga,pm,sm⟩:=os _ (List.getElem_mem il)
   refine⟨⟨rfl,rfl,trivial⟩,tTru_if ⟨_,rfl,_,rfl,_,rfl,false,false,t2,l,as[i],n,ties2,ps,ord,rfl,W6.same sG,ok2,n1,by lia,sG _ _ gl6,sG _ _ ga,pm,po,fun j hj=>Nat.le_trans (sm j hj) (by decide),fun a v G2 A I s2=>?_⟩⟩
   obtain⟨r,T1,b1⟩:=tat_of po.nd pm A I
   refine⟨sG.trans s2,vs++[a],by rw[List.map_append];rfl,fun a' ha=>?_⟩
   rcases List.mem_append.mp ha with z | z
   ·obtain⟨c,r,m,T,b⟩:=tv a' z
    exact⟨c,r,m,T.same s2,b⟩
   ·rw[List.mem_singleton.mp z]
    exact⟨_,r,_,T1,b1⟩
  rintro ys G yl ⟨sG,vs,rfl,tv⟩ D hD
  have vl:vs.length<=2:=by rw[List.length_map,List.length_map]at yl;lia
  have sD:=Same.new (o:=.lst (vs.map V.ref)) hD
  refine⟨_,rfl,(by show 0<=sizeLine;decide),fun e0 he0=>⟨D,e0,_,rfl,rfl,Same.new he0 _ _ upd_same,upd_same,_,rfl,?_⟩⟩
  have se:=Same.new (o:=.lst []) he0
  have gD:=se _ _ (show(upd G D (.lst (vs.map V.ref))) D=some (.lst (vs.map V.ref))from upd_same)
  have s67:=sG.trans (sD.trans se)
  have tv7:∀ a∈vs,∃ c r m,TAt (upd (upd G D (.lst (vs.map V.ref))) e0 (.lst [])) a c r m/\Best n ties2 ps c r m:=fun a ha=>by
   obtain⟨c,r,m,T,b⟩:=tv a ha
   exact⟨c,r,m,T.same (sD.trans se),b⟩
  generalize (upd (upd G D (.lst (vs.map V.ref))) e0 (.lst []))=H7 at gD s67 tv7
  clear se sD sG tv hD he0
  cases vs with
  |nil=>exact ite2 (fun _=>q _ (k06.trans (kept_s s67))) (fun z=>absurd rfl z)
  |cons v0 vs =>
  refine ite2 (fun z=>nomatch z) (fun _=>?_)
  obtain⟨c,r,m,T0,bst⟩:=tv7 v0 (List.mem_cons_self ..)
  have rl:r.length=n:=(Nar.lr_mem.mp bst.mem).1
  have eqv:∀ a∈v0 :: vs,TAt H7 a c r m:=fun a ha=>by
   obtain⟨c',r',m',T',b'⟩:=tv7 a ha
   obtain⟨rfl,rfl,rfl⟩:=bst.one b'
   exact T'
  clear tv7
  refine⟨_,rfl,D,rfl,⟨_,SqL.of gD⟩,?_⟩
  refine comp_list (K:=K) (a:=D) (xs:=(v0 :: vs).map V.ref) (fun i zs G=>Same H7 G/\zs=(List.replicate i false).map V.bl) (by rw[List.length_map,sizeLine_eq];lia) ⟨Same.refl _,rfl⟩ (fun i zs G _ z=>SqL.of (z.1 _ _ gD)) ?_ ?_
  ·rintro i x zs G hx ⟨sG,rfl⟩
   obtain⟨il,e⟩:=List.getElem?_eq_some_iff.mp hx
   rw[List.length_map]at il
   rw[List.getElem_map]at e
   subst e
   have d1:=dat_tat ((eqv _ (List.getElem_mem il)).same sG) (by omega)
   have d2:=dat_tat (T0.same sG) (by omega)
   exact⟨⟨rfl,trivial⟩,tTru_if ⟨_,rfl,_,rfl,D,_,_,_,rfl,rfl,sG _ _ gD,at0,1,_,d1,d2,rfl,by decide,sG,rep_b false i⟩⟩
  rintro zs G _ ⟨sG,rfl⟩ D2 hD2
  refine⟨D2,_,rfl,upd_same,_,rfl,?_⟩
  rw[any_rep]
  refine iteF ?_
  have s8:=sG.trans (Same.new (o:=.lst ((List.replicate ((v0 :: vs).map V.ref).length false).map V.bl)) hD2)
  generalize (upd G D2 (.lst ((List.replicate ((v0 :: vs).map V.ref).length false).map V.bl)))=H8 at s8
  clear sG hD2
  obtain⟨ra,gv0,gra⟩:=T0.same s8
  have s68:=s67.trans s8
  have W8:=W6.same s68
  have WT8:=WT6.same s68
  have gl8:=s68 _ _ gl6
  refine⟨_,rfl,D,_,_,_,rfl,rfl,s8 _ _ gD,at0,?_⟩
  refine⟨v0,_,rfl,SqT.of gv0,rfl,_,_,rfl,_,_,rfl,_,_,rfl,rfl,?_⟩
  clear gv0 gD T0 eqv
  refine⟨_,rfl,_,rfl,t2,ra,n,ties2,r,rfl,W8,ok2,gra,rl,fun H9 s9=>⟨_,rfl,rfl,_,rfl,?_⟩⟩
  rw[IsSum.eq bst]
  refine iteNS rfl ?_
  have gl9:=s9 _ _ gl8
  have gra9:=s9 _ _ gra
  have r0:∀ x∈ps,atI (r.map V.int) x=some (V.int x):=fun x hx=>by
   obtain⟨x0,x1⟩:=po.rg x hx
   have:=(Nar.lr_mem.mp bst.mem).2 x.toNat (by omega)
   rw[show((x.toNat:Nat):Int)=x by omega]at this
   unfold Nar.ch at this
   rw[if_pos hx]at this
   rw[at_int x0 (by omega),List.mem_singleton.mp this]
  refine⟨_,rfl,l,rfl,⟨_,SqL.of gl9⟩,?_⟩
  refine comp_list (K:=K) (a:=l) (xs:=ps.map V.int) (fun i zs G=>Same H9 G/\zs=(List.replicate i false).map V.bl) (by rw[List.length_map,sizeLine_eq];omega) ⟨Same.refl _,rfl⟩ (fun i zs G _ z=>SqL.of (z.1 _ _ gl9)) ?_ ?_
  ·rintro i x zs G hx ⟨sG,rfl⟩
   obtain⟨il,e⟩:=List.getElem?_eq_some_iff.mp hx
   rw[List.length_map]at il
   rw[List.getElem_map]at e
   subst e
   refine⟨⟨rfl,trivial⟩,tTru_if ⟨_,rfl,_,rfl,ra,_,_,_,rfl,rfl,sG _ _ gra9,r0 _ (List.getElem_mem il),_,rfl,rfl,?_⟩⟩
   rw[decide_eq_true rfl]
   exact⟨sG,rep_b false i⟩
  rintro zs G _ ⟨sG,rfl⟩ D2 hD2
  refine⟨D2,_,rfl,upd_same,_,rfl,?_⟩
  rw[any_rep]
  refine iteF ?_
  have s10:=s9.trans (sG.trans (Same.new (o:=.lst ((List.replicate (ps.map V.int).length false).map V.bl)) hD2))
  generalize (upd G D2 (.lst ((List.replicate (ps.map V.int).length false).map V.bl)))=H10 at s10
  clear sG hD2 s9 gl9 gra9 G
  apply cutH (C:=fun HG=>Same H8 HG)
  ·intro rest
   obtain⟨⟨ts2,bs2,h1,h2,h3⟩,_⟩:=W8.same s10
   obtain⟨⟨ts,bs,g1,g2,g3⟩,_⟩:=WT8.same s10
   refine⟨_,rfl,_,rfl,t2,t,ts2,ts,n,n,bs2,bs,_,_,rfl,rfl,h1,g1,h2,g2,ties_tups h3,ties_tups g3,fun b hb=>⟨b,rfl,?_⟩⟩
   cases b with
   |false=>exact iteF (iteF (rest _ s10))
   |true =>
    have e:=tieK_inj (hb rfl)
    subst e
    obtain⟨L,HG⟩:=Hng.hang_ex n1 TR.tree (fun x hx=>⟨(ok x hx).1,(ok x hx).2.1,(ok x hx).2.2.1⟩) (ties_nodup pw) tlen
    have pne:ps≠[]:=fun z=>by rw[z]at p2;exact absurd p2 (by decide)
    refine iteT ⟨_,rfl,_,rfl,false,t,l,n,ties2,ps,L,rfl,WT8.same s10,ok,by omega,HG,s10 _ _ gl8,pne,by omega,fun r' ow tb z os' R H11 gr gow TA4 TB ez s11=>?_⟩
    refine⟨r',_,_,_,rfl,rfl,gr,at0,_,rfl,rfl,_,rfl,?_⟩
    rw[ez,tree_best HG TB ok pne bst]
    exact iteNS rfl (rest _ (s10.trans s11))
  clear s10 H10
  intro H11 s11
  have gl11:=s11 _ _ gl8
  have gra11:=s11 _ _ gra
  have W11:=W8.same s11
  have p00:ps.length≠0:=by omega
  have at_p:atI (ps.map V.int) 0=some (V.int (ps.getD 0 0)):=by
   cases ps with
   |nil=>exact absurd rfl p00
   |cons a b=>exact at0
  refine⟨_,rfl,_,rfl,_,rfl,l,_,_,_,rfl,rfl,gl11,at_p,(by show 1<=sizeLine;decide),fun one h1=>?_⟩
  have so:=Same.new (o:=.tup [.int (ps.getD 0 0)]) h1
  refine⟨ra,one,_,_,rfl,rfl,so _ _ gra11,upd_same,by rw[List.length_map,sizeLine_eq];show r.length+1<=_;omega,fun rb H12 s12 grb=>?_⟩
  refine⟨_,rfl,_,rfl,l,_,rfl,s12 _ _ (so _ _ gl11),_,_,rfl,rfl,.inr ⟨by rw[List.length_map];omega,by rw[List.length_map];omega⟩,(by show 3<=sizeLine;decide),fun mo hmo=>?_⟩
  rw[List.length_map]
  dsimp only
  have sm:=Same.new (o:=.tup [.int c,.ref rb,.int (m * (ps.length:Int))]) hmo
  have s13:Same H11 (upd H12 mo (.tup [.int c,.ref rb,.int (m * (ps.length:Int))])):=so.trans (s12.trans sm)
  have TM:TAt (upd H12 mo (.tup [.int c,.ref rb,.int (m * (ps.length:Int))])) mo c (r++[ps.getD 0 0]) (m * (ps.length:Int)):=⟨rb,upd_same,by rw[List.map_append];exact sm _ _ grb⟩
  generalize (upd H12 mo (.tup [.int c,.ref rb,.int (m * (ps.length:Int))]))=H13 at s13 TM
  clear so s12 sm hmo h1
  have s613:=s68.trans (s11.trans s13)
  have W13:=W6.same s613
  have mop:mo≠p:=fun z=>by
   obtain⟨_,g,_⟩:=TM
   obtain⟨x1,x2,x3,eb,_⟩:=B6.same s613
   rw[z,eb]at g
   cases g
  refine⟨_,rfl,_,rfl,t2,n,ties2,rfl,W13,n29,fun ta H14 Wa sa=>⟨_,rfl,p,ta,l,n+1,_,ties2,ps,rfl,(B6.same (s613.trans sa)),by decide,by omega,by omega,Wa,tie_more ok2,(s613.trans sa) _ _ gl6,lp,by omega,by omega,fun ol2 as2 H15 gol2 olp2 al2 os2 B15 k15=>?_⟩⟩
  have B14:=B6.same (s613.trans sa)
  have W15:=(W13.same sa).kept B14 k15
  have gl15:=k15 _ _ lp ((s613.trans sa) _ _ gl6)
  have TM15:TAt H15 mo c (r++[ps.getD 0 0]) (m * (ps.length:Int)):=by
   obtain⟨rb',g1,g2⟩:=TM.same sa
   have ne:∀ {u xs},H14 u=some (.tup xs)->u≠p:=fun g z=>by
    obtain⟨x1,x2,x3,eb,_⟩:=B14
    rw[z,eb]at g
    cases g
   exact⟨rb',k15 _ _ (ne g1) g1,k15 _ _ (ne g2) g2⟩
  have bst1:=best_more ok2 po bst
  have k015:=k06.trans ((kept_s (s613.trans sa)).trans k15)
  refine⟨_,rfl,ol2,rfl,⟨_,SqL.of gol2⟩,?_⟩
  refine comp_list (K:=K) (a:=ol2) (xs:=as2.map V.ref) (fun i zs G=>Same H15 G/\zs=(List.replicate i true).map V.bl) (by rw[List.length_map,sizeLine_eq];omega) ⟨Same.refl _,rfl⟩ (fun i zs G _ z=>SqL.of (z.1 _ _ gol2)) ?_ ?_
  ·rintro i x zs G hx ⟨sG,rfl⟩
   obtain⟨il,e⟩:=List.getElem?_eq_some_iff.mp hx
   rw[List.length_map]at il
   rw[List.getElem_map]at e
   subst e
   obtain⟨ap,ord,ga,pm,sm⟩:=os2 _ (List.getElem_mem il)
   refine⟨⟨rfl,rfl,rfl,trivial⟩,tTru_if ⟨_,rfl,t2,n,ties2,rfl,W15.same sG,n29,fun tb G2 Wb sb=>⟨_,rfl,_,rfl,false,false,tb,l,as2[i],n+1,ties2,ps,ord,rfl,Wb,tie_more ok2,by omega,by omega,(sG.trans sb) _ _ gl15,(sG.trans sb) _ _ ga,pm,post_more po,fun j hj=>Nat.le_trans (sm j hj) (by decide),fun a v G3 A I s3=>?_⟩⟩⟩
   obtain⟨r',T1,b1⟩:=tat_of po.nd pm A I
   obtain⟨e1,e2,e3⟩:=bst1.one b1
   rw[<- e1,<- e2,<- e3]at T1
   have sG3:=sG.trans (sb.trans s3)
   have rl2:(r++[ps.getD 0 0]).length<=1000:=by rw[List.length_append];show r.length+1<=1000;omega
   exact⟨_,rfl,1,_,dat_tat T1 rl2,dat_tat (TM15.same sG3) rl2,rfl,by decide,sG3,rep_b true i⟩
  rintro zs G _ ⟨sG,rfl⟩ D3 hD3
  refine⟨D3,_,rfl,upd_same,?_⟩
  rw[all_rep]
  exact q _ (k015.trans (kept_s (sG.trans (Same.new hD3))))
end
open PySem L2 PyProof.Rows
structure Txt3(mg:Str->Option Value):Prop where
 any:mg "any" = none
 set:mg "set" = none
 reversed:mg "reversed" = none
section
variable{P:Program}{w:World}{K:PySem.W.Frag}{mg:Str->Option Value}{base:Heap}
inductive spLawI(K:PySem.W.Frag)(vs:List V)(H:Hp)(Q:VK):Prop where
 |mk (a:Addr) (ns:List Int) (h1:vs=[.ref a]) (h2:SqL K H a (ns.map V.int)) (h3:ns.length<=63) (h4:∀ H',Q (.bl true) H')
noncomputable def spLaw(K:PySem.W.Frag):Sp:=fun vs H Q _=>spLawI K vs H Q
noncomputable abbrev nLaw:List Str:=["_law_script","_law_k"]
theorem scLaw:FnScope nLaw ["_law_script"] (defScope sLaw):=⟨rfl,rfl,rfl,by decide +kernel,rfl,by decide +kernel,by decide +kernel⟩
theorem ok_law{f g1 g2:Addr}{fd d1 d2:FuncData}(F:Fun K "law" "law" sLaw f fd)(T:Txt mg)(GB:CalF P w K mg base 2 "_law_box" ["_law_script","_law_k"] (spBox K) g1 d1)(GR:CalF P w K mg base 4 "_law_right" ["_law_box_here"] spRi g2 d2):FnOk P w K mg base CX0 5 f fd ["_law_script"] (spLaw K):=by
 refine F.ok scLaw (fun vs H Q E h=>?_) (fun cdv A outer s H vs Q E hr h=>?_)
 ·obtain⟨a,ns,rfl,_⟩:=h
  rfl
 ·obtain⟨a,ns,rfl,hS,hlen,q⟩:=h
  have hr2:Room 2 _:=hr.mono (by decide)
  refine⟨_,(pss_cons (ps_for PassesOwn.never rfl (pi_range1 rfl T.range (@pa_call _ _ _ _ _ _ _ _ (pe_callB (call_max2 rfl) (by rfl) T.max boot_max (@pa_cst _ _ _ _ _ _ _ pe_int (@pa_call _ _ _ _ _ _ _ _ (pe_callB (call_min2 rfl) (by rfl) T.min boot_min (@pa_call _ _ _ _ _ _ _ _ (pe_callB call_len_seq (by rfl) T.len PySem.boot_len (@pa_nam _ _ _ _ _ _ (pv 0) pa_nil)) (@pa_cst _ _ _ _ _ _ _ pe_int pa_nil))) pa_nil))) pa_nil)) (pg_name (i:=1) scLaw.nd rfl (Or.inl rfl))
   (pss_one (ps_if (pt_not (pt_val (pe_call GR.ok hr rfl GR.mg GR.kp GR.bd .nil pass0 (@pa_call _ _ _ _ _ _ _ _ (pe_call GB.ok hr2 rfl GB.mg GB.kp GB.bd .nil pass0 (@pa_nam _ _ _ _ _ _ (pv 0) (@pa_nam _ _ _ _ _ _ (pv 1) pa_nil))) pa_nil)))) pss_never pss_nil)))
   (pss_one (ps_ret pe_bl))),?_⟩
  refine⟨_,rfl,a,_,rfl,.inl hS,_,_,rfl,_,_,rfl,_,rfl,?_,?_,?_⟩
  ·split <;> split <;> lia
  ·split <;> split <;> lia
  generalize (if(if(4:Int) <((ns.map V.int).length:Int)then(4:Int)else((ns.map V.int).length:Int)) > 3 then(if(4:Int) <((ns.map V.int).length:Int)then(4:Int)else((ns.map V.int).length:Int))else 3).toNat=turns
  refine for_range (lo:=0) (n:=turns) (fun i σ H'=>∃ v1,σ=[some (.ref a),v1]/\Same H H') ⟨_,rfl,Same.refl _⟩ ?_ ?_
  ·rintro i σ H0 hi ⟨v1,rfl,s0⟩
   refine⟨_,rfl,_,rfl,a,ns,0+i,by rw[Int.zero_add,Nat.zero_add];rfl,s0.seq hS,fun p H1 hp B1 k1=>?_⟩
   refine⟨p,rfl,B1,fun H2 k2=>?_⟩
   exact⟨_,rfl,iteF ⟨_,rfl,s0.trans (Kept.same hp (k1.trans k2))⟩⟩
  ·rintro σ H' ⟨v1,rfl,s0⟩
   exact q H'
end
open PySem L2 PyProof.Rows
theorem leS{k:Nat}{motive:List Value->Prop}(us:List Value)(hl:us.length=k+1)(h:∀ a t,t.length=k->motive (a :: t)):motive us:=by
 cases us with
 |nil=>cases hl
 |cons a t=>exact h a t (Nat.succ.inj hl)
theorem leZ{motive:List Value->Prop}(us:List Value)(hl:us.length=0)(h:motive []):motive us:=by
 cases us with
 |nil=>exact h
 |cons a t=>cases hl
@[elab_as_elim] theorem le1{motive:List Value->Prop}(us:List Value)(hl:us.length=1)(k:∀ a0,motive [a0]):motive us:=leS (motive:=fun u=>motive (u)) us hl fun a0 t0 h0=>leZ (motive:=fun u=>motive (a0 :: u)) t0 h0 (k a0)
@[elab_as_elim] theorem le2{motive:List Value->Prop}(us:List Value)(hl:us.length=2)(k:∀ a0 a1,motive [a0,a1]):motive us:=leS (motive:=fun u=>motive (u)) us hl fun a0 t0 h0=>leS (motive:=fun u=>motive (a0 :: u)) t0 h0 fun a1 t1 h1=>leZ (motive:=fun u=>motive (a0 :: a1 :: u)) t1 h1 (k a0 a1)
@[elab_as_elim] theorem le3{motive:List Value->Prop}(us:List Value)(hl:us.length=3)(k:∀ a0 a1 a2,motive [a0,a1,a2]):motive us:=leS (motive:=fun u=>motive (u)) us hl fun a0 t0 h0=>leS (motive:=fun u=>motive (a0 :: u)) t0 h0 fun a1 t1 h1=>leS (motive:=fun u=>motive (a0 :: a1 :: u)) t1 h1 fun a2 t2 h2=>leZ (motive:=fun u=>motive (a0 :: a1 :: a2 :: u)) t2 h2 (k a0 a1 a2)
@[elab_as_elim] theorem le4{motive:List Value->Prop}(us:List Value)(hl:us.length=4)(k:∀ a0 a1 a2 a3,motive [a0,a1,a2,a3]):motive us:=leS (motive:=fun u=>motive (u)) us hl fun a0 t0 h0=>leS (motive:=fun u=>motive (a0 :: u)) t0 h0 fun a1 t1 h1=>leS (motive:=fun u=>motive (a0 :: a1 :: u)) t1 h1 fun a2 t2 h2=>leS (motive:=fun u=>motive (a0 :: a1 :: a2 :: u)) t2 h2 fun a3 t3 h3=>leZ (motive:=fun u=>motive (a0 :: a1 :: a2 :: a3 :: u)) t3 h3 (k a0 a1 a2 a3)
theorem all_mk{l:PySem.W.OpenLaw}{w:World}{K:PySem.W.Frag}{h:Heap}{mg:Str->Option Value}{fa f1 f2 f3 f4 f5 f6 f7 f8 f9 f10 f11 f12 f13 f14 f15 f16 f17 f18 f19 f20 f21 f22 f23 f24 f25 f26 f27 f28:Addr}(X:K.In h)(G:h.Ns mainGlobals mg)(hfa:mg "law" = some (.ref fa))
  {od1 an1 od2 an2 od3 an3 od4 an4 od5 an5 od6 an6 od7 an7 od8 an8 od9 an9 od10 an10 od11 an11 od12 an12 od13 an13 od14 an14 od15 an15 od16 an16 od17 an17 od18 an18 od19 an19 od20 an20 od21 an21 od22 an22 od23 an23 od24 an24 od25 an25 od26 an26 od27 an27 od28 an28:Option Addr}{sl1 sl2 sl3 sl4 sl5 sl6 sl7 sl8 sl9 sl10 sl11 sl12 sl13 sl14 sl15 sl16 sl17 sl18 sl19 sl20 sl21 sl22 sl23 sl24 sl25 sl26 sl27 sl28:Array (Option Value)}{oc1 kV1 dc1 pm1 cd1 ct1 oc2 kV2 dc2 pm2 cd2 ct2 oc3 kV3 dc3 pm3 cd3 ct3 oc4 kV4 dc4 pm4 cd4 ct4 oc5 kV5 dc5 pm5 cd5 ct5 oc6 kV6 dc6 pm6 cd6 ct6 oc7 kV7 dc7 pm7 cd7 ct7 oc8 kV8 dc8 pm8 cd8 ct8 oc9 kV9 dc9 pm9 cd9 ct9 oc10 kV10 dc10 pm10 cd10 ct10 oc11 kV11 dc11 pm11 cd11 ct11 oc12 kV12 dc12 pm12 cd12 ct12 oc13 kV13 dc13 pm13 cd13 ct13 oc14 kV14 dc14 pm14 cd14 ct14 oc15 kV15 dc15 pm15 cd15 ct15 oc16 kV16 dc16 pm16 cd16 ct16 oc17 kV17 dc17 pm17 cd17 ct17 oc18 kV18 dc18 pm18 cd18 ct18 oc19 kV19 dc19 pm19 cd19 ct19 oc20 kV20 dc20 pm20 cd20 ct20 oc21 kV21 dc21 pm21 cd21 ct21 oc22 kV22 dc22 pm22 cd22 ct22 oc23 kV23 dc23 pm23 cd23 ct23 oc24 kV24 dc24 pm24 cd24 ct24 oc25 kV25 dc25 pm25 cd25 ct25 oc26 kV26 dc26 pm26 cd26 ct26 oc27 kV27 dc27 pm27 cd27 ct27 oc28 kV28 dc28 pm28 cd28 ct28:Value}
  (a1:PySem.W.nsIn K mainGlobals "beside_each" = some (some (.ref f1))) (l1:K.lookup f1=some ⟨oc1,od1,.func (PySem.W.fnOf "beside_each" "beside_each" (defArgs sBesideEach) (defBody sBesideEach) (defScope sBesideEach) .none kV1 dc1 pm1 an1 cd1 ct1),sl1⟩) (c1:PySem.W.codeIn K cd1 "beside_each" = true) (k1:PySem.W.keepIn K (.ref f1)=true)
  (a2:PySem.W.nsIn K mainGlobals "given" = some (some (.ref f2))) (l2:K.lookup f2=some ⟨oc2,od2,.func (PySem.W.fnOf "given" "given" (defArgs sGiven) (defBody sGiven) (defScope sGiven) .none kV2 dc2 pm2 an2 cd2 ct2),sl2⟩) (c2:PySem.W.codeIn K cd2 "given" = true) (k2:PySem.W.keepIn K (.ref f2)=true)
  (a3:PySem.W.nsIn K mainGlobals "parted_from" = some (some (.ref f3))) (l3:K.lookup f3=some ⟨oc3,od3,.func (PySem.W.fnOf "parted_from" "parted_from" (defArgs sPartedFrom) (defBody sPartedFrom) (defScope sPartedFrom) .none kV3 dc3 pm3 an3 cd3 ct3),sl3⟩) (c3:PySem.W.codeIn K cd3 "parted_from" = true) (k3:PySem.W.keepIn K (.ref f3)=true)
  (a4:PySem.W.nsIn K mainGlobals "open_behind" = some (some (.ref f4))) (l4:K.lookup f4=some ⟨oc4,od4,.func (PySem.W.fnOf "open_behind" "open_behind" (defArgs sOpenBehind) (defBody sOpenBehind) (defScope sOpenBehind) .none kV4 dc4 pm4 an4 cd4 ct4),sl4⟩) (c4:PySem.W.codeIn K cd4 "open_behind" = true) (k4:PySem.W.keepIn K (.ref f4)=true)
  (a5:PySem.W.nsIn K mainGlobals "least_narrow" = some (some (.ref f5))) (l5:K.lookup f5=some ⟨oc5,od5,.func (PySem.W.fnOf "least_narrow" "least_narrow" (defArgs sLeastNarrow) (defBody sLeastNarrow) (defScope sLeastNarrow) .none kV5 dc5 pm5 an5 cd5 ct5),sl5⟩) (c5:PySem.W.codeIn K cd5 "least_narrow" = true) (k5:PySem.W.keepIn K (.ref f5)=true)
  (a6:PySem.W.nsIn K mainGlobals "joined" = some (some (.ref f6))) (l6:K.lookup f6=some ⟨oc6,od6,.func (PySem.W.fnOf "joined" "joined" (defArgs sJoined) (defBody sJoined) (defScope sJoined) .none kV6 dc6 pm6 an6 cd6 ct6),sl6⟩) (c6:PySem.W.codeIn K cd6 "joined" = true) (k6:PySem.W.keepIn K (.ref f6)=true)
  (a7:PySem.W.nsIn K mainGlobals "least_on_tree" = some (some (.ref f7))) (l7:K.lookup f7=some ⟨oc7,od7,.func (PySem.W.fnOf "least_on_tree" "least_on_tree" (defArgs sLeastOnTree) (defBody sLeastOnTree) (defScope sLeastOnTree) .none kV7 dc7 pm7 an7 cd7 ct7),sl7⟩) (c7:PySem.W.codeIn K cd7 "least_on_tree" = true) (k7:PySem.W.keepIn K (.ref f7)=true)
  (a8:PySem.W.nsIn K mainGlobals "behind_each" = some (some (.ref f8))) (l8:K.lookup f8=some ⟨oc8,od8,.func (PySem.W.fnOf "behind_each" "behind_each" (defArgs sBehindEach) (defBody sBehindEach) (defScope sBehindEach) .none kV8 dc8 pm8 an8 cd8 ct8),sl8⟩) (c8:PySem.W.codeIn K cd8 "behind_each" = true) (k8:PySem.W.keepIn K (.ref f8)=true)
  (a9:PySem.W.nsIn K mainGlobals "weights_behind" = some (some (.ref f9))) (l9:K.lookup f9=some ⟨oc9,od9,.func (PySem.W.fnOf "weights_behind" "weights_behind" (defArgs sWeightsBehind) (defBody sWeightsBehind) (defScope sWeightsBehind) .none kV9 dc9 pm9 an9 cd9 ct9),sl9⟩) (c9:PySem.W.codeIn K cd9 "weights_behind" = true) (k9:PySem.W.keepIn K (.ref f9)=true)
  (a10:PySem.W.nsIn K mainGlobals "least_of" = some (some (.ref f10))) (l10:K.lookup f10=some ⟨oc10,od10,.func (PySem.W.fnOf "least_of" "least_of" (defArgs sLeastOf) (defBody sLeastOf) (defScope sLeastOf) .none kV10 dc10 pm10 an10 cd10 ct10),sl10⟩) (c10:PySem.W.codeIn K cd10 "least_of" = true) (k10:PySem.W.keepIn K (.ref f10)=true)
  (a11:PySem.W.nsIn K mainGlobals "is_open_to" = some (some (.ref f11))) (l11:K.lookup f11=some ⟨oc11,od11,.func (PySem.W.fnOf "is_open_to" "is_open_to" (defArgs sIsOpenTo) (defBody sIsOpenTo) (defScope sIsOpenTo) .none kV11 dc11 pm11 an11 cd11 ct11),sl11⟩) (c11:PySem.W.codeIn K cd11 "is_open_to" = true) (k11:PySem.W.keepIn K (.ref f11)=true)
  (a12:PySem.W.nsIn K mainGlobals "_law_cell_at" = some (some (.ref f12))) (l12:K.lookup f12=some ⟨oc12,od12,.func (PySem.W.fnOf "_law_cell_at" "_law_cell_at" (defArgs sCell) (defBody sCell) (defScope sCell) .none kV12 dc12 pm12 an12 cd12 ct12),sl12⟩) (c12:PySem.W.codeIn K cd12 "_law_cell_at" = true) (k12:PySem.W.keepIn K (.ref f12)=true)
  (a13:PySem.W.nsIn K mainGlobals "_law_box" = some (some (.ref f13))) (l13:K.lookup f13=some ⟨oc13,od13,.func (PySem.W.fnOf "_law_box" "_law_box" (defArgs sBox) (defBody sBox) (defScope sBox) .none kV13 dc13 pm13 an13 cd13 ct13),sl13⟩) (c13:PySem.W.codeIn K cd13 "_law_box" = true) (k13:PySem.W.keepIn K (.ref f13)=true)
  (a14:PySem.W.nsIn K mainGlobals "_law_take" = some (some (.ref f14))) (l14:K.lookup f14=some ⟨oc14,od14,.func (PySem.W.fnOf "_law_take" "_law_take" (defArgs sTake) (defBody sTake) (defScope sTake) .none kV14 dc14 pm14 an14 cd14 ct14),sl14⟩) (c14:PySem.W.codeIn K cd14 "_law_take" = true) (k14:PySem.W.keepIn K (.ref f14)=true)
  (a15:PySem.W.nsIn K mainGlobals "_law_many" = some (some (.ref f15))) (l15:K.lookup f15=some ⟨oc15,od15,.func (PySem.W.fnOf "_law_many" "_law_many" (defArgs sMany) (defBody sMany) (defScope sMany) .none kV15 dc15 pm15 an15 cd15 ct15),sl15⟩) (c15:PySem.W.codeIn K cd15 "_law_many" = true) (k15:PySem.W.keepIn K (.ref f15)=true)
  (a16:PySem.W.nsIn K mainGlobals "_law_weight" = some (some (.ref f16))) (l16:K.lookup f16=some ⟨oc16,od16,.func (PySem.W.fnOf "_law_weight" "_law_weight" (defArgs sWeight) (defBody sWeight) (defScope sWeight) .none kV16 dc16 pm16 an16 cd16 ct16),sl16⟩) (c16:PySem.W.codeIn K cd16 "_law_weight" = true) (k16:PySem.W.keepIn K (.ref f16)=true)
  (a17:PySem.W.nsIn K mainGlobals "_law_tree" = some (some (.ref f17))) (l17:K.lookup f17=some ⟨oc17,od17,.func (PySem.W.fnOf "_law_tree" "_law_tree" (defArgs sTree) (defBody sTree) (defScope sTree) .none kV17 dc17 pm17 an17 cd17 ct17),sl17⟩) (c17:PySem.W.codeIn K cd17 "_law_tree" = true) (k17:PySem.W.keepIn K (.ref f17)=true)
  (a18:PySem.W.nsIn K mainGlobals "_law_posts" = some (some (.ref f18))) (l18:K.lookup f18=some ⟨oc18,od18,.func (PySem.W.fnOf "_law_posts" "_law_posts" (defArgs sPosts) (defBody sPosts) (defScope sPosts) .none kV18 dc18 pm18 an18 cd18 ct18),sl18⟩) (c18:PySem.W.codeIn K cd18 "_law_posts" = true) (k18:PySem.W.keepIn K (.ref f18)=true)
  (a19:PySem.W.nsIn K mainGlobals "_law_order" = some (some (.ref f19))) (l19:K.lookup f19=some ⟨oc19,od19,.func (PySem.W.fnOf "_law_order" "_law_order" (defArgs sOrder) (defBody sOrder) (defScope sOrder) .none kV19 dc19 pm19 an19 cd19 ct19),sl19⟩) (c19:PySem.W.codeIn K cd19 "_law_order" = true) (k19:PySem.W.keepIn K (.ref f19)=true)
  (a20:PySem.W.nsIn K mainGlobals "_law_widths" = some (some (.ref f20))) (l20:K.lookup f20=some ⟨oc20,od20,.func (PySem.W.fnOf "_law_widths" "_law_widths" (defArgs sWidths) (defBody sWidths) (defScope sWidths) .none kV20 dc20 pm20 an20 cd20 ct20),sl20⟩) (c20:PySem.W.codeIn K cd20 "_law_widths" = true) (k20:PySem.W.keepIn K (.ref f20)=true)
  (a21:PySem.W.nsIn K mainGlobals "_law_cost" = some (some (.ref f21))) (l21:K.lookup f21=some ⟨oc21,od21,.func (PySem.W.fnOf "_law_cost" "_law_cost" (defArgs sCost) (defBody sCost) (defScope sCost) .none kV21 dc21 pm21 an21 cd21 ct21),sl21⟩) (c21:PySem.W.codeIn K cd21 "_law_cost" = true) (k21:PySem.W.keepIn K (.ref f21)=true)
  (a22:PySem.W.nsIn K mainGlobals "_law_power" = some (some (.ref f22))) (l22:K.lookup f22=some ⟨oc22,od22,.func (PySem.W.fnOf "_law_power" "_law_power" (defArgs sPower) (defBody sPower) (defScope sPower) .none kV22 dc22 pm22 an22 cd22 ct22),sl22⟩) (c22:PySem.W.codeIn K cd22 "_law_power" = true) (k22:PySem.W.keepIn K (.ref f22)=true)
  (a23:PySem.W.nsIn K mainGlobals "_law_with_more" = some (some (.ref f23))) (l23:K.lookup f23=some ⟨oc23,od23,.func (PySem.W.fnOf "_law_with_more" "_law_with_more" (defArgs sWithMore) (defBody sWithMore) (defScope sWithMore) .none kV23 dc23 pm23 an23 cd23 ct23),sl23⟩) (c23:PySem.W.codeIn K cd23 "_law_with_more" = true) (k23:PySem.W.keepIn K (.ref f23)=true)
  (a24:PySem.W.nsIn K mainGlobals "_law_deep_order" = some (some (.ref f24))) (l24:K.lookup f24=some ⟨oc24,od24,.func (PySem.W.fnOf "_law_deep_order" "_law_deep_order" (defArgs sDeepOrder) (defBody sDeepOrder) (defScope sDeepOrder) .none kV24 dc24 pm24 an24 cd24 ct24),sl24⟩) (c24:PySem.W.codeIn K cd24 "_law_deep_order" = true) (k24:PySem.W.keepIn K (.ref f24)=true)
  (a25:PySem.W.nsIn K mainGlobals "_law_orders" = some (some (.ref f25))) (l25:K.lookup f25=some ⟨oc25,od25,.func (PySem.W.fnOf "_law_orders" "_law_orders" (defArgs sOrders) (defBody sOrders) (defScope sOrders) .none kV25 dc25 pm25 an25 cd25 ct25),sl25⟩) (c25:PySem.W.codeIn K cd25 "_law_orders" = true) (k25:PySem.W.keepIn K (.ref f25)=true)
  (a26:PySem.W.nsIn K mainGlobals "_law_alone" = some (some (.ref f26))) (l26:K.lookup f26=some ⟨oc26,od26,.func (PySem.W.fnOf "_law_alone" "_law_alone" (defArgs sAlone) (defBody sAlone) (defScope sAlone) .none kV26 dc26 pm26 an26 cd26 ct26),sl26⟩) (c26:PySem.W.codeIn K cd26 "_law_alone" = true) (k26:PySem.W.keepIn K (.ref f26)=true)
  (a27:PySem.W.nsIn K mainGlobals "_law_right" = some (some (.ref f27))) (l27:K.lookup f27=some ⟨oc27,od27,.func (PySem.W.fnOf "_law_right" "_law_right" (defArgs sRight) (defBody sRight) (defScope sRight) .none kV27 dc27 pm27 an27 cd27 ct27),sl27⟩) (c27:PySem.W.codeIn K cd27 "_law_right" = true) (k27:PySem.W.keepIn K (.ref f27)=true)
  (a28:PySem.W.nsIn K mainGlobals "law" = some (some (.ref f28))) (l28:K.lookup f28=some ⟨oc28,od28,.func (PySem.W.fnOf "law" "law" (defArgs sLaw) (defBody sLaw) (defScope sLaw) .none kV28 dc28 pm28 an28 cd28 ct28),sl28⟩) (c28:PySem.W.codeIn K cd28 "law" = true) (k28:PySem.W.keepIn K (.ref f28)=true)
  (z1:PySem.W.nsIn K mainGlobals "abs" = some none) (z2:PySem.W.nsIn K mainGlobals "int" = some none) (z3:PySem.W.nsIn K mainGlobals "len" = some none) (z4:PySem.W.nsIn K mainGlobals "range" = some none) (z5:PySem.W.nsIn K mainGlobals "min" = some none) (z6:PySem.W.nsIn K mainGlobals "max" = some none) (z7:PySem.W.nsIn K mainGlobals "tuple" = some none) (z8:PySem.W.nsIn K mainGlobals "sorted" = some none) (z9:PySem.W.nsIn K mainGlobals "isinstance" = some none) (z10:PySem.W.nsIn K mainGlobals "list" = some none) (z11:PySem.W.nsIn K mainGlobals "str" = some none) (z12:PySem.W.nsIn K mainGlobals "bool" = some none) (z13:PySem.W.nsIn K mainGlobals "sum" = some none) (z14:PySem.W.nsIn K mainGlobals "all" = some none) (z15:PySem.W.nsIn K mainGlobals "zip" = some none) (z16:PySem.W.nsIn K mainGlobals "enumerate" = some none) (z17:PySem.W.nsIn K mainGlobals "dict" = some none) (z18:PySem.W.nsIn K mainGlobals "any" = some none) (z19:PySem.W.nsIn K mainGlobals "set" = some none) (z20:PySem.W.nsIn K mainGlobals "reversed" = some none) :
  ∃ fd:FuncData,(∀ (s:Shared) (v:Value),BindsTo s fd ⟨[v],[]⟩ [("_law_script",v)])/\∀ base:Heap,K.In base->base.Ns mainGlobals mg->FnOk l.prog w K mg base CX0 5 fa fd ["_law_script"] (spLaw K):=by
 have e:=hfa.symm.trans (PySem.W.mg_of X G a28)
 cases e
 have T:Txt mg:=⟨PySem.W.mg_none_of X G z1,PySem.W.mg_none_of X G z2,PySem.W.mg_none_of X G z3,PySem.W.mg_none_of X G z4,PySem.W.mg_none_of X G z5,PySem.W.mg_none_of X G z6,PySem.W.mg_none_of X G z7,PySem.W.mg_none_of X G z8,PySem.W.mg_none_of X G z9,PySem.W.mg_none_of X G z10,PySem.W.mg_none_of X G z11,PySem.W.mg_none_of X G z12,PySem.W.mg_none_of X G z13⟩
 have T2:Txt2 mg:=⟨PySem.W.mg_none_of X G z14,PySem.W.mg_none_of X G z15,PySem.W.mg_none_of X G z16,PySem.W.mg_none_of X G z17⟩
 have T3:Txt3 mg:=⟨PySem.W.mg_none_of X G z18,PySem.W.mg_none_of X G z19,PySem.W.mg_none_of X G z20⟩
 have F1:=fun_mk (st:=sBesideEach) l1 c1 k1
 have F2:=fun_mk (st:=sGiven) l2 c2 k2
 have F3:=fun_mk (st:=sPartedFrom) l3 c3 k3
 have F4:=fun_mk (st:=sOpenBehind) l4 c4 k4
 have F5:=fun_mk (st:=sLeastNarrow) l5 c5 k5
 have F6:=fun_mk (st:=sJoined) l6 c6 k6
 have F7:=fun_mk (st:=sLeastOnTree) l7 c7 k7
 have F8:=fun_mk (st:=sBehindEach) l8 c8 k8
 have F9:=fun_mk (st:=sWeightsBehind) l9 c9 k9
 have F10:=fun_mk (st:=sLeastOf) l10 c10 k10
 have F11:=fun_mk (st:=sIsOpenTo) l11 c11 k11
 have F12:=fun_mk (st:=sCell) l12 c12 k12
 have F13:=fun_mk (st:=sBox) l13 c13 k13
 have F14:=fun_mk (st:=sTake) l14 c14 k14
 have F15:=fun_mk (st:=sMany) l15 c15 k15
 have F16:=fun_mk (st:=sWeight) l16 c16 k16
 have F17:=fun_mk (st:=sTree) l17 c17 k17
 have F18:=fun_mk (st:=sPosts) l18 c18 k18
 have F19:=fun_mk (st:=sOrder) l19 c19 k19
 have F20:=fun_mk (st:=sWidths) l20 c20 k20
 have F21:=fun_mk (st:=sCost) l21 c21 k21
 have F22:=fun_mk (st:=sPower) l22 c22 k22
 have F23:=fun_mk (st:=sWithMore) l23 c23 k23
 have F24:=fun_mk (st:=sDeepOrder) l24 c24 k24
 have F25:=fun_mk (st:=sOrders) l25 c25 k25
 have F26:=fun_mk (st:=sAlone) l26 c26 k26
 have F27:=fun_mk (st:=sRight) l27 c27 k27
 have F28:=fun_mk (st:=sLaw) l28 c28 k28
 have b1:=F1.binds (ps:=["web"]) fun _ _ _ _ _ _ us hl=>le1 us hl fun _=>rfl
 have b2:=F2.binds (ps:=["owners","place","post"]) fun _ _ _ _ _ _ us hl=>le3 us hl fun _ _ _=>rfl
 have b3:=F3.binds (ps:=["ties","owners","post"]) fun _ _ _ _ _ _ us hl=>le3 us hl fun _ _ _=>rfl
 have b4:=F4.binds (ps:=["web","order"]) fun _ _ _ _ _ _ us hl=>le2 us hl fun _ _=>rfl
 have b5:=F5.binds (ps:=["web","posts","order"]) fun _ _ _ _ _ _ us hl=>le3 us hl fun _ _ _=>rfl
 have b6:=F6.binds (ps:=["one","other"]) fun _ _ _ _ _ _ us hl=>le2 us hl fun _ _=>rfl
 have b7:=F7.binds (ps:=["web","posts"]) fun _ _ _ _ _ _ us hl=>le2 us hl fun _ _=>rfl
 have b8:=F8.binds (ps:=["web"]) fun _ _ _ _ _ _ us hl=>le1 us hl fun _=>rfl
 have b9:=F9.binds (ps:=["posts","place","nexts","table"]) fun _ _ _ _ _ _ us hl=>le4 us hl fun _ _ _ _=>rfl
 have b10:=F10.binds (ps:=["posts","row","owner","heavy"]) fun _ _ _ _ _ _ us hl=>le4 us hl fun _ _ _ _=>rfl
 have b11:=F11.binds (ps:=["posts","place","post"]) fun _ _ _ _ _ _ us hl=>le3 us hl fun _ _ _=>rfl
 have b12:=F12.binds (ps:=["_law_script","_law_k"]) fun _ _ _ _ _ _ us hl=>le2 us hl fun _ _=>rfl
 have b13:=F13.binds (ps:=["_law_script","_law_k"]) fun _ _ _ _ _ _ us hl=>le2 us hl fun _ _=>rfl
 have b14:=F14.binds (ps:=["_law_box_here","_law_many_here"]) fun _ _ _ _ _ _ us hl=>le2 us hl fun _ _=>rfl
 have b15:=F15.binds (ps:=["_law_box_here","_law_least","_law_few","_law_most"]) fun _ _ _ _ _ _ us hl=>le4 us hl fun _ _ _ _=>rfl
 have b16:=F16.binds (ps:=["_law_box_here","_law_heavy"]) fun _ _ _ _ _ _ us hl=>le2 us hl fun _ _=>rfl
 have b17:=F17.binds (ps:=["_law_box_here","_law_many_here"]) fun _ _ _ _ _ _ us hl=>le2 us hl fun _ _=>rfl
 have b18:=F18.binds (ps:=["_law_box_here","_law_many_here","_law_most"]) fun _ _ _ _ _ _ us hl=>le3 us hl fun _ _ _=>rfl
 have b19:=F19.binds (ps:=["_law_box_here","_law_web"]) fun _ _ _ _ _ _ us hl=>le2 us hl fun _ _=>rfl
 have b20:=F20.binds (ps:=["_law_web","_law_order_here"]) fun _ _ _ _ _ _ us hl=>le2 us hl fun _ _=>rfl
 have b21:=F21.binds (ps:=["_law_web","_law_owners"]) fun _ _ _ _ _ _ us hl=>le2 us hl fun _ _=>rfl
 have b22:=F22.binds (ps:=["_law_one","_law_many_here"]) fun _ _ _ _ _ _ us hl=>le2 us hl fun _ _=>rfl
 have b23:=F23.binds (ps:=["_law_box_here","_law_web"]) fun _ _ _ _ _ _ us hl=>le2 us hl fun _ _=>rfl
 have b24:=F24.binds (ps:=["_law_web"]) fun _ _ _ _ _ _ us hl=>le1 us hl fun _=>rfl
 have b25:=F25.binds (ps:=["_law_box_here","_law_web","_law_posts_here"]) fun _ _ _ _ _ _ us hl=>le3 us hl fun _ _ _=>rfl
 have b26:=F26.binds (ps:=["_law_web"]) fun _ _ _ _ _ _ us hl=>le1 us hl fun _=>rfl
 have b27:=F27.binds (ps:=["_law_box_here"]) fun _ _ _ _ _ _ us hl=>le1 us hl fun _=>rfl
 have m1:=PySem.W.mg_of X G a1
 have m2:=PySem.W.mg_of X G a2
 have m3:=PySem.W.mg_of X G a3
 have m4:=PySem.W.mg_of X G a4
 have m5:=PySem.W.mg_of X G a5
 have m6:=PySem.W.mg_of X G a6
 have m7:=PySem.W.mg_of X G a7
 have m8:=PySem.W.mg_of X G a8
 have m9:=PySem.W.mg_of X G a9
 have m10:=PySem.W.mg_of X G a10
 have m11:=PySem.W.mg_of X G a11
 have m12:=PySem.W.mg_of X G a12
 have m13:=PySem.W.mg_of X G a13
 have m14:=PySem.W.mg_of X G a14
 have m15:=PySem.W.mg_of X G a15
 have m16:=PySem.W.mg_of X G a16
 have m17:=PySem.W.mg_of X G a17
 have m18:=PySem.W.mg_of X G a18
 have m19:=PySem.W.mg_of X G a19
 have m20:=PySem.W.mg_of X G a20
 have m21:=PySem.W.mg_of X G a21
 have m22:=PySem.W.mg_of X G a22
 have m23:=PySem.W.mg_of X G a23
 have m24:=PySem.W.mg_of X G a24
 have m25:=PySem.W.mg_of X G a25
 have m26:=PySem.W.mg_of X G a26
 have m27:=PySem.W.mg_of X G a27
 have m28:=PySem.W.mg_of X G a28
 refine⟨PySem.W.fnOf "law" "law" (defArgs sLaw) (defBody sLaw) (defScope sLaw) .none kV28 dc28 pm28 an28 cd28 ct28,fun s v=>.of_eq rfl,fun base _ _=>?_⟩
 have C__law_box:CalF l.prog w K mg base 2 "_law_box" ["_law_script","_law_k"] (spBox K) f13 _:=⟨ok_box F13 T F12 m12 b12,m13,k13,b13⟩
 have TK:TakeF l.prog w K mg base f14 _:=⟨ok_take F14,m14,k14,b14⟩
 have C__law_many:CalF l.prog w K mg base 2 "_law_many" ["_law_box_here","_law_least","_law_few","_law_most"] spMany f15 _:=⟨ok_many F15 TK,m15,k15,b15⟩
 have TW:WeightF l.prog w K mg base f16 _:=⟨ok_weight F16 TK,m16,k16,b16⟩
 have C__law_tree:CalF l.prog w K mg base 3 "_law_tree" ["_law_box_here","_law_many_here"] spTree f17 _:=⟨ok_tree F17 T TK TW,m17,k17,b17⟩
 have C__law_with_more:CalF l.prog w K mg base 3 "_law_with_more" ["_law_box_here","_law_web"] spWm f23 _:=⟨ok_wm F23 T T2 TK TW,m23,k23,b23⟩
 have C__law_posts:CalF l.prog w K mg base 2 "_law_posts" ["_law_box_here","_law_many_here","_law_most"] spPo f18 _:=⟨ok_po F18 T TK,m18,k18,b18⟩
 have C_beside_each:CalF l.prog w K mg base 1 "beside_each" ["web"] spBes f1 _:=⟨ok_bes F1 T,m1,k1,b1⟩
 have C_open_behind:CalF l.prog w K mg base 1 "open_behind" ["web","order"] spOB f4 _:=⟨ok_ob F4 T T2,m4,k4,b4⟩
 have C_given:CalF l.prog w K mg base 1 "given" ["owners","place","post"] spGi f2 _:=⟨ok_gi F2,m2,k2,b2⟩
 have C_parted_from:CalF l.prog w K mg base 1 "parted_from" ["ties","owners","post"] spPf f3 _:=⟨ok_pf F3 T,m3,k3,b3⟩
 have C_joined:CalF l.prog w K mg base 1 "joined" ["one","other"] spJn f6 _:=⟨ok_jn F6 T,m6,k6,b6⟩
 have C_least_narrow:CalF l.prog w K mg base 2 "least_narrow" ["web","posts","order"] spLn f5 _:=⟨ok_ln F5 T T2 C_beside_each C_open_behind C_given C_parted_from C_joined,m5,k5,b5⟩
 have C__law_deep_order:CalF l.prog w K mg base 1 "_law_deep_order" ["_law_web"] spDo f24 _:=⟨ok_do F24 T,m24,k24,b24⟩
 have C__law_order:CalF l.prog w K mg base 2 "_law_order" ["_law_box_here","_law_web"] spOr f19 _:=⟨ok_or F19 T TK,m19,k19,b19⟩
 have C__law_power:CalF l.prog w K mg base 1 "_law_power" ["_law_one","_law_many_here"] spPw f22 _:=⟨ok_pw F22 T,m22,k22,b22⟩
 have C__law_widths:CalF l.prog w K mg base 1 "_law_widths" ["_law_web","_law_order_here"] spWs f20 _:=⟨ok_ws F20 T T3.set,m20,k20,b20⟩
 have C__law_orders:CalF l.prog w K mg base 3 "_law_orders" ["_law_box_here","_law_web","_law_posts_here"] spOd f25 _:=⟨ok_od F25 T ⟨C__law_deep_order,C__law_order,C__law_power,C__law_widths⟩,m25,k25,b25⟩
 have C__law_cost:CalF l.prog w K mg base 1 "_law_cost" ["_law_web","_law_owners"] spCo f21 _:=⟨ok_co F21 T,m21,k21,b21⟩
 have C_behind_each:CalF l.prog w K mg base 2 "behind_each" ["web"] spBe f8 _:=⟨ok_be F8 T C_beside_each,m8,k8,b8⟩
 have C_least_of:CalF l.prog w K mg base 1 "least_of" ["posts","row","owner","heavy"] spLo f10 _:=⟨ok_lo F10 T T2,m10,k10,b10⟩
 have C_is_open_to:CalF l.prog w K mg base 1 "is_open_to" ["posts","place","post"] spIo f11 _:=⟨ok_io F11,m11,k11,b11⟩
 have C_weights_behind:CalF l.prog w K mg base 2 "weights_behind" ["posts","place","nexts","table"] spWb f9 _:=⟨ok_wb F9 T C_least_of C_is_open_to,m9,k9,b9⟩
 have C_least_on_tree:CalF l.prog w K mg base 3 "least_on_tree" ["web","posts"] spLt f7 _:=⟨ok_lt F7 T T3.reversed C_behind_each C_weights_behind C_least_of,m7,k7,b7⟩
 have C__law_alone:CalF l.prog w K mg base 1 "_law_alone" ["_law_web"] spAl f26 _:=⟨ok_al F26 T,m26,k26,b26⟩
 have C__law_right:CalF l.prog w K mg base 4 "_law_right" ["_law_box_here"] spRi f27 _:=⟨ok_ri F27 T T2 T3.any ⟨TK,C__law_many,C__law_tree,C__law_with_more,C__law_posts,C_least_narrow,C__law_orders,C__law_cost,C_least_on_tree,C__law_alone⟩,m27,k27,b27⟩
 exact ok_law F28 T C__law_box C__law_right
theorem walk{l:PySem.W.OpenLaw}{q:Program}{loose:List Str}{XP:(Str->Option Value)->Heap->Prop}{YP:World->Heap->Prop}{d:DefRec}{K:Params->PySem.W.Frag}(hn:l.most=some 63)(hdf:d.params.defaults=[])(hY:∀ (w:World) (h:Heap),YP w h->(K w.params).In h)
  (F:∀ (w:World) (mg:Str->Option Value) (fa:Addr) (h:Heap),(K w.params).In h->h.Ns mainGlobals mg->mg d.name=some (.ref fa)->∃ fd:FuncData,(∀ (s:Shared) (u:Value),BindsTo s fd ⟨[u],[]⟩ [("_law_script",u)])/\∀ base:Heap,(K w.params).In base->base.Ns mainGlobals mg->FnOk l.prog w (K w.params) mg base CX0 5 fa fd ["_law_script"] (spLaw (K w.params))) :
  PySem.W.WalkO q loose XP YP l.row.toRowW d [] (fun f vs=>PySem.call f vs) :=
 L2.walk_of (n:=63) (k:=5) (x:="_law_script") (CX:=fun _=>CX0) (sp:=fun w=>spLaw (K w.params)) hn (by decide) hdf ⟨rfl,by decide,by decide,rfl⟩ hY F (fun _ _ a ns hl _ hS=>⟨a,ns,rfl,hS,hl,fun _=>rfl⟩) fun _ _ _ _ _ z=>z
end K45
open PySem PySem.W PyProof.Rows
set_option maxRecDepth 100000 in
set_option maxHeartbeats 0 in
theorem PySem.Challenge.cw_partedweb_k45_narrow_by_any_order_holds : PySem.Challenge.rw_partedweb_k45_narrow_by_any_order.Holds := by
  w_on; o_law; k_head; (case hw => w_witness2)
  k_fill
  refine K45.walk (l := PySem.Challenge.rw_partedweb_k45_narrow_by_any_order) rfl rfl (fun w h Y => PySem.W.kIn_of Y) ?F
  case F =>
    intro w mg fa h KX G hmg
    refine' K45.all_mk KX G hmg ?a1 ?l1 ?c1 ?k1 ?a2 ?l2 ?c2 ?k2 ?a3 ?l3 ?c3 ?k3 ?a4 ?l4 ?c4 ?k4 ?a5 ?l5 ?c5 ?k5 ?a6 ?l6 ?c6 ?k6 ?a7 ?l7 ?c7 ?k7 ?a8 ?l8 ?c8 ?k8 ?a9 ?l9 ?c9 ?k9 ?a10 ?l10 ?c10 ?k10 ?a11 ?l11 ?c11 ?k11 ?a12 ?l12 ?c12 ?k12 ?a13 ?l13 ?c13 ?k13 ?a14 ?l14 ?c14 ?k14 ?a15 ?l15 ?c15 ?k15 ?a16 ?l16 ?c16 ?k16 ?a17 ?l17 ?c17 ?k17 ?a18 ?l18 ?c18 ?k18 ?a19 ?l19 ?c19 ?k19 ?a20 ?l20 ?c20 ?k20 ?a21 ?l21 ?c21 ?k21 ?a22 ?l22 ?c22 ?k22 ?a23 ?l23 ?c23 ?k23 ?a24 ?l24 ?c24 ?k24 ?a25 ?l25 ?c25 ?k25 ?a26 ?l26 ?c26 ?k26 ?a27 ?l27 ?c27 ?k27 ?a28 ?l28 ?c28 ?k28 ?z1 ?z2 ?z3 ?z4 ?z5 ?z6 ?z7 ?z8 ?z9 ?z10 ?z11 ?z12 ?z13 ?z14 ?z15 ?z16 ?z17 ?z18 ?z19 ?z20
    (case a1 => k_is); (case l1 => k_is); (case c1 => k_is); (case k1 => k_is); (case a2 => k_is); (case l2 => k_is)
    (case c2 => k_is); (case k2 => k_is); (case a3 => k_is); (case l3 => k_is); (case c3 => k_is); (case k3 => k_is)
    (case a4 => k_is); (case l4 => k_is); (case c4 => k_is); (case k4 => k_is); (case a5 => k_is); (case l5 => k_is)
    (case c5 => k_is); (case k5 => k_is); (case a6 => k_is); (case l6 => k_is); (case c6 => k_is); (case k6 => k_is)
    (case a7 => k_is); (case l7 => k_is); (case c7 => k_is); (case k7 => k_is); (case a8 => k_is); (case l8 => k_is)
    (case c8 => k_is); (case k8 => k_is); (case a9 => k_is); (case l9 => k_is); (case c9 => k_is); (case k9 => k_is)
    (case a10 => k_is); (case l10 => k_is); (case c10 => k_is); (case k10 => k_is); (case a11 => k_is); (case l11 => k_is)
    (case c11 => k_is); (case k11 => k_is); (case a12 => k_is); (case l12 => k_is); (case c12 => k_is); (case k12 => k_is)
    (case a13 => k_is); (case l13 => k_is); (case c13 => k_is); (case k13 => k_is); (case a14 => k_is); (case l14 => k_is)
    (case c14 => k_is); (case k14 => k_is); (case a15 => k_is); (case l15 => k_is); (case c15 => k_is); (case k15 => k_is)
    (case a16 => k_is); (case l16 => k_is); (case c16 => k_is); (case k16 => k_is); (case a17 => k_is); (case l17 => k_is)
    (case c17 => k_is); (case k17 => k_is); (case a18 => k_is); (case l18 => k_is); (case c18 => k_is); (case k18 => k_is)
    (case a19 => k_is); (case l19 => k_is); (case c19 => k_is); (case k19 => k_is); (case a20 => k_is); (case l20 => k_is)
    (case c20 => k_is); (case k20 => k_is); (case a21 => k_is); (case l21 => k_is); (case c21 => k_is); (case k21 => k_is)
    (case a22 => k_is); (case l22 => k_is); (case c22 => k_is); (case k22 => k_is); (case a23 => k_is); (case l23 => k_is)
    (case c23 => k_is); (case k23 => k_is); (case a24 => k_is); (case l24 => k_is); (case c24 => k_is); (case k24 => k_is)
    (case a25 => k_is); (case l25 => k_is); (case c25 => k_is); (case k25 => k_is); (case a26 => k_is); (case l26 => k_is)
    (case c26 => k_is); (case k26 => k_is); (case a27 => k_is); (case l27 => k_is); (case c27 => k_is); (case k27 => k_is)
    (case a28 => k_is); (case l28 => k_is); (case c28 => k_is); (case k28 => k_is); (case z1 => k_is); (case z2 => k_is)
    (case z3 => k_is); (case z4 => k_is); (case z5 => k_is); (case z6 => k_is); (case z7 => k_is); (case z8 => k_is)
    (case z9 => k_is); (case z10 => k_is); (case z11 => k_is); (case z12 => k_is); (case z13 => k_is); (case z14 => k_is)
    (case z15 => k_is); (case z16 => k_is); (case z17 => k_is); (case z18 => k_is); (case z19 => k_is); (case z20 => k_is)
#print axioms PySem.Challenge.cw_partedweb_k45_narrow_by_any_order_holds
